/-
  The reference's steps, generated from numbers. Condition: the numbers are Go's.
-/
import Derived.Test.YtiokiecnglmbnaaK56
import Derived.Test.YtiokiecnglmbnaaK55
import Derived.IntWalk
import Derived.Test.YtiokiecnglmbnaaK19
import Derived.Test.YtiokiecnglmbnaaK18
import Derived.Test.YtiokiecnglmbnaaK15

namespace Go.Proofs.Ytiokiecnglmbnaa
open Go Go.RowKit Go.Proofs
attribute [local go_sem] Oper.semAt_some

namespace NM
def kL (z : List Int) (i : Nat) : Int := z[i]?.getD 0
def kls (z : List Int) (j : Nat) : List Int := (List.range j).map (kL z)
def stepEv (z : List Int) : Ev := evOf (kL z 0) (kL z 1)
def stepN (z : List Int) : Nat := (arI (kL z 2) 4).toNat
def stepAsk (z : List Int) (i : Nat) : Qu × Int := (quOf (kL z (3 + 2 * i)) (kL z (4 + 2 * i)), arI (kL z (3 + i)) 4)
def stepAsks (z : List Int) (m : Nat) : List (Qu × Int) := (List.range m).map (stepAsk z)
theorem kls_succ (z : List Int) (j : Nat) : kls z (j + 1) = kls z j ++ [kL z j] := by simp [kls, List.range_succ]
theorem kls_len (z : List Int) (j : Nat) : (kls z j).length = j := by simp [kls]
theorem kls_get {z : List Int} {j i : Nat} (h : i < j) : (kls z j)[i]? = some (kL z i) := by simp [kls, h]
theorem stepAsks_succ (z : List Int) (m : Nat) : stepAsks z (m + 1) = stepAsks z m ++ [stepAsk z m] := by simp [stepAsks, List.range_succ]
theorem stepAsks_len (z : List Int) (m : Nat) : (stepAsks z m).length = m := by simp [stepAsks]
theorem stepN_le (z : List Int) : stepN z ≤ 3 := by
  have := arI_in (kL z 2) 4 (by omega)
  unfold stepN
  omega
end NM
theorem kL_i64 {z : List Int} (h : ∀ x ∈ z, I64 x) (i : Nat) : I64 (NM.kL z i) := by
  unfold NM.kL
  cases hq : z[i]? with
  | none => show I64 0; unfold I64; omega
  | some x => exact h x (List.mem_of_getElem? hq)
/-- The cells of a question with its answer; the arity is 4. -/
def askC (x : NM.Qu × Int) : List Value := [.int .i64 x.1.c, .int .i64 x.1.h, .int .i64 x.1.t, .int .i64 x.1.k, .int .i64 x.1.i, .int .i64 4, .int .i64 x.2]
def asksC (l : List (NM.Qu × Int)) : List Value := l.flatMap askC
theorem asksC_app (l r : List (NM.Qu × Int)) : asksC (l ++ r) = asksC l ++ asksC r := by simp [asksC]
theorem asksC_len (l : List (NM.Qu × Int)) : (asksC l).length = l.length * 7 := by
  induction l with
  | nil => rfl
  | cons x t ih =>
    show (askC x ++ asksC t).length = _
    rw [List.length_append, ih, List.length_cons]
    show 7 + _ = _
    omega
theorem asksC_one (l : List (NM.Qu × Int)) : ∀ u ∈ asksC l, u.oneCell' = true := by
  intro u hu
  obtain ⟨x, _, h⟩ := List.mem_flatMap.1 hu
  simp [askC] at h
  rcases h with rfl | rfl | rfl | rfl | rfl | rfl | rfl <;> rfl
theorem asksC_get : ∀ {l : List (NM.Qu × Int)} {j o : Nat} {x : NM.Qu × Int}, l[j]? = some x → o < 7 → (asksC l)[j * 7 + o]? = (askC x)[o]?
  | [], j, o, x, h, _ => by simp at h
  | y :: t, 0, o, x, h, ho => by
    simp only [List.getElem?_cons_zero, Option.some.injEq] at h
    subst h
    show (askC y ++ asksC t)[0 * 7 + o]? = _
    rw [Nat.zero_mul, Nat.zero_add, List.getElem?_append_left (by exact ho)]
  | y :: t, j + 1, o, x, h, ho => by
    show (askC y ++ asksC t)[(j + 1) * 7 + o]? = _
    rw [List.getElem?_append_right (by show 7 ≤ _; omega), show (j + 1) * 7 + o - (askC y).length = j * 7 + o by show _ - 7 = _; omega]
    exact asksC_get (by simpa using h) ho
/-- An own row of questions with their answers. -/
def AsksOwn (w : World) (base : Nat) (B : Option Addr) (m c : Nat) (l : List (NM.Qu × Int)) : Prop := l.length = m ∧ w.ownsRow base 96 7 (.slice B m c) m (asksC l)
theorem AsksOwn.asks {w : World} {base : Nat} {B : Option Addr} {m c : Nat} {l : List (NM.Qu × Int)} (h : AsksOwn w base B m c l) : Asks w B m l := by
  refine ⟨h.1, fun hm => ?_⟩
  obtain ⟨g, cap, hv, _, hlt⟩ := h.2.form hm
  injection hv with hB
  subst hB
  refine ⟨g, rfl, hlt, fun j x hj => ?_⟩
  have key : ∀ o, o < 7 → ∀ u, (askC x)[o]? = some u → w.cell? ⟨g, j * 7 + o, none⟩ = some u := fun o ho u hu => by
    have := h.2.cells (g := g) rfl (j * 7 + o) u (by rw [asksC_get hj ho]; exact hu)
    rw [Addr.add_lit, Nat.zero_add] at this
    exact this
  exact ⟨4, key 0 (by omega) _ rfl, key 1 (by omega) _ rfl, key 2 (by omega) _ rfl, key 3 (by omega) _ rfl, key 4 (by omega) _ rfl, key 5 (by omega) _ rfl, key 6 (by omega) _ rfl⟩
theorem info_intS : (Try.prog.info? 3).map (fun i => (i.zero, i.size, i.bytes)) = some (some (.int .i64 0), 1, 8) := by kernel_rfl
theorem info_askS : (Try.prog.info? 96).map (fun i => (i.zero, i.size, i.bytes)) = some (some (.agg #[.int .i64 0, .int .i64 0, .int .i64 0, .int .i64 0, .int .i64 0, .int .i64 0, .int .i64 0]), 7, 56) := by kernel_rfl
theorem size_step : (Try.prog.info? 51).map (·.size) = some 11 := by kernel_rfl
theorem size_asks : (Try.prog.info? 48).map (·.size) = some 1 := by kernel_rfl
theorem own_below {w w' : World} {base size n : Nat} {e : TypeId} {v : Value} {xs : List Value} (h : w.ownsRow base e size v n xs) (hb : Below w.heap.size w w') : w'.ownsRow base e size v n xs :=
  h.kept (row := none) ⟨hb.os, hb.tape, hb.output, hb.size, fun k hk _ => hb.block k hk⟩ (by cases hv : v.ownBlock <;> simp)
theorem own_base {w : World} {base base' size n : Nat} {e : TypeId} {v : Value} {xs : List Value} (h : w.ownsRow base e size v n xs) (hb : base' ≤ base) : w.ownsRow base' e size v n xs := by
  refine ⟨h.1, ?_⟩
  rcases h.2 with h | ⟨g, cap, cur, h1, h2, h3⟩
  · exact .inl h
  · exact .inr ⟨g, cap, cur, h1, Nat.le_trans hb h2, h3⟩
def StepR (w : World) (z : List Int) (e : Ending) (w' : World) : Prop := ∃ B c, e = .returned (.agg #[.int .i64 (NM.stepEv z).k, .int .i64 (NM.stepEv z).n, .int .i64 (NM.stepEv z).a, .int .i64 (NM.stepEv z).m.c, .int .i64 (NM.stepEv z).m.h, .int .i64 (NM.stepEv z).m.t, .int .i64 (NM.stepEv z).m.i, .int .i64 (NM.stepEv z).m.p, .slice B (NM.stepN z) c, .bool false, .slice none 0 0]) ∧ AsksOwn w' w.heap.size B (NM.stepN z) c (NM.stepAsks z (NM.stepN z)) ∧ Below w.heap.size w w'

set_option maxHeartbeats 8000000 in
set_option maxRecDepth 100000 in
theorem stepOf_any {A : Option Addr} {n c : Nat} {z : List Int} (w : World) (hz : Ints .i64 w.heap.size w A n z) (h64 : ∀ x ∈ z, I64 x) :
    Calls Try.prog 25 #[.slice A n c] w (StepR w z) := by
  obtain ⟨i0, hi0, hz0, hs0, hb0⟩ := RgX.info_split info_intS
  have HZ := Lib.hid hz
  have H64 := Lib.hid (kL_i64 h64)
  have HZL := Lib.hid hz.len
  obtain ⟨U, hU⟩ : ∃ U, w.alloc (.cells #[.int .i64 0, .int .i64 0, .int .i64 0, .int .i64 0, .int .i64 0, .int .i64 0, .int .i64 0, .int .i64 0, .slice none 0 0, .bool false, .slice none 0 0] 51) = U := ⟨_, rfl⟩
  have hb : Below w.heap.size w U := hU ▸ one_box w _
  have hltU : w.heap.size < U.heap.size := by rw [← hU]; simp
  have kr : U.heap[w.heap.size]? = some (.cells #[.int .i64 0, .int .i64 0, .int .i64 0, .int .i64 0, .int .i64 0, .int .i64 0, .int .i64 0, .int .i64 0, .slice none 0 0, .bool false, .slice none 0 0] 51 (0, 0)) := by rw [← hU]; exact new_at rfl
  have HB := Lib.hid hb
  have HR := Lib.hid kr
  clear hz h64 hb kr
  go_enter Try.func25, Try.ntmps25
  go_wp2_with fail
  clear hU
  go_loopw [3, 4] (fun k i V => ∃ (j : Nat) (A1 : Option Addr) (c1 : Nat), j ≤ 9 ∧ i = .int .i64 (j : Int) ∧ k = .slice A1 j c1 ∧ Hid (V.ownsRow U.heap.size 3 1 (.slice A1 j c1) j ((NM.kls z j).map (Value.int .i64))) ∧ Hid (Below U.heap.size U V)) (fun _ i _ => 9 - (intOf i).toNat)
  case atStart => exact ⟨0, none, 0, by omega, rfl, rfl, World.ownsRow_nil _ _ _ _, Below.refl _ _⟩
  case round =>
    obtain ⟨j, A1, c1, hj, rfl, rfl, HO, HV⟩ := hrel
    by_cases hlt : j < 9
    · have d9 : decide ((j : Int) < 9) = true := by simp; omega
      have hsV := HV.out.size
      have hx : ∃ x, NM.kL z j = x := ⟨_, rfl⟩
      obtain ⟨x, hx⟩ := hx
      have HX := Lib.hid hx
      have hkeep : Below w.heap.size w wr := HB.out.trans (HV.out.mono HB.out.size)
      have HKP := Lib.hid hkeep
      have HONE := Lib.hid (show ∀ (V : World) A' c', V.ownsRow U.heap.size 3 1 (.slice A' (j + 1) c') (j + 1) ((NM.kls z j).map (Value.int .i64) ++ [x].map (Value.int .i64)) → V.ownsRow U.heap.size 3 1 (.slice A' (j + 1) c') (j + 1) ((NM.kls z (j + 1)).map (Value.int .i64)) from fun V A' c' h => by rw [NM.kls_succ, List.map_append, HX.out]; exact h)
      clear hx hkeep
      by_cases hin : j < n
      · have dn : decide (j < n) = true := decide_eq_true hin
        obtain ⟨b, off, hA, hbl, hc⟩ := HZ.out.at_ (by omega)
        have c0 : wr.cell? ⟨b, off + j, none⟩ = some (.int .i64 x) := by
          rw [HKP.out.cell (p := ⟨b, off + j, none⟩) hbl, hc j hin, ← HX.out]
          rfl
        subst hA
        clear hc
        go_wp2_with (at_builtin
                     refine wpList_append_slc rfl _ _ 22 rfl U.heap.size 3 i0 _ 8 Try.underlying22 hi0 hz0 hs0 hb0 rfl _ _ _ rfl (HO.out.alloc _) .i64 _ _ _ _ rfl (slc_one _ _ _ _) (by simp only [maxLen]; omega) (by omega) (by simp; omega) ?_
                     intro A2 c2 w4 hown4 hgrow4)
        have hb4 := (HV.out.alloc hsV (.cells #[.int .i64 x] 3)).grown hgrow4 (by simp; omega) (fun b e => (HO.out.lt b e).1)
        have HO4 := Lib.hid (HONE.out _ _ _ hown4)
        have HV4 := Lib.hid hb4
        clear hown4 hgrow4 hb4
        go_roundw
        case rel => exact ⟨j + 1, A2, c2, by omega, by go_num, rfl, HO4, HV4⟩
        case measure => simp [intOf]; omega
      · have dn : decide (j < n) = false := decide_eq_false hin
        have hx0 : x = 0 := by
          rw [← HX.out]
          unfold NM.kL
          rw [List.getElem?_eq_none (by rw [HZL.out]; omega)]
          rfl
        subst hx0
        go_wp2_with (at_builtin
                     refine wpList_append_slc rfl _ _ 22 rfl U.heap.size 3 i0 _ 8 Try.underlying22 hi0 hz0 hs0 hb0 rfl _ _ _ rfl (HO.out.alloc _) .i64 _ _ _ _ rfl (slc_one _ _ _ _) (by simp only [maxLen]; omega) (by omega) (by simp; omega) ?_
                     intro A2 c2 w4 hown4 hgrow4)
        have hb4 := (HV.out.alloc hsV (.cells #[.int .i64 0] 3)).grown hgrow4 (by simp; omega) (fun b e => (HO.out.lt b e).1)
        have HO4 := Lib.hid (HONE.out _ _ _ hown4)
        have HV4 := Lib.hid hb4
        clear hown4 hgrow4 hb4
        go_roundw
        case rel => exact ⟨j + 1, A2, c2, by omega, by go_num, rfl, HO4, HV4⟩
        case measure => simp [intOf]; omega
    · have d9 : decide ((j : Int) < 9) = false := by simp; omega
      have hsV := HV.out.size
      obtain ⟨g, cap, hv, hgl, hglt⟩ := HO.out.form (by omega)
      injection hv with hA hm hc
      have HKC := Lib.hid (fun (V : World) (hV : Below wr.heap.size wr V) (i : Nat) (hi : i < 9) => show V.cell? ⟨g, i, none⟩ = some (.int .i64 (NM.kL z i)) from by
        rw [hV.cell (p := ⟨g, i, none⟩) hglt]
        have := HO.out.cells (g := g) (by rw [hA]; rfl) i (.int .i64 (NM.kL z i)) (by rw [List.getElem?_map, NM.kls_get (by omega)]; rfl)
        rw [Addr.add_lit, Nat.zero_add] at this
        exact this)
      have HGT := Lib.hid (show ∃ C, wr.heap[g]? = some (.cells C 3 (0, 0)) from by
        rcases HO.out.2 with ⟨h, _⟩ | ⟨g', cap', cur, h, _, hg, _⟩
        · injection h with h1; rw [hA] at h1; cases h1
        · injection h with h1
          rw [hA] at h1
          injection h1 with h1
          injection h1 with h1
          subst h1
          exact ⟨cur, hg⟩)
      have hj2 : 9 ≤ j := by omega
      subst hA
      clear hm hc
      have HG := Lib.hid (And.intro hgl hglt)
      have HEV := Lib.hid (fun V => eventOf_any (NM.kL z 0) (NM.kL z 1) (H64.out 0) (H64.out 1) V)
      obtain ⟨⟨ek, en, ea, ⟨ec, eh, et, ei, ep⟩⟩, hEE⟩ : ∃ E, NM.evOf (NM.kL z 0) (NM.kL z 1) = E := ⟨_, rfl⟩
      rw [hEE] at HEV
      have HEE := Lib.hid hEE
      clear hEE
      have HAR := Lib.hid (fun V => around_any (NM.kL z 2) 4 (H64.out 2) (by omega) (by omega) V)
      have hain := NM.arI_in (NM.kL z 2) 4 (by omega)
      obtain ⟨a2, ha2⟩ : ∃ a2, NM.arI (NM.kL z 2) 4 = a2 := ⟨_, rfl⟩
      have HAR' : Hid (∀ V, Calls Try.prog 35 #[.int .i64 (NM.kL z 2), .int .i64 4] V fun e w' => e = .returned (.int .i64 a2) ∧ V = w') := ha2 ▸ HAR
      rw [ha2] at hain
      obtain ⟨m, hm⟩ : ∃ m : Nat, a2 = (m : Int) := ⟨a2.toNat, by omega⟩
      subst hm
      have HM := Lib.hid (show NM.stepN z = m by unfold NM.stepN; rw [ha2]; rfl)
      clear HAR ha2 hgl hglt
      go_wp2_with fail
      refine RgX.tail 9 (fun i => (if i = 8 then 6 else 24 + i)) (fun ix_ => match ix_ with | 0 => .v (.slice (some ⟨g, 0, none⟩) j c1) | 1 => .v (.pointer (some ⟨g, 0, none⟩)) | 2 => .v (.int .i64 (NM.kL z 0)) | 3 => .v (.slice (some ⟨g, 0, none⟩) j c1) | 4 => .v (.pointer (some ⟨g, 1, none⟩)) | 5 => .v (.int .i64 (NM.kL z 1)) | 6 => .v (.agg #[.int .i64 ek, .int .i64 en, .int .i64 ea, .int .i64 ec, .int .i64 eh, .int .i64 et, .int .i64 ei, .int .i64 ep]) | 7 => .v (.agg #[.int .i64 ek, .int .i64 en, .int .i64 ea, .int .i64 ec, .int .i64 eh, .int .i64 et, .int .i64 ei, .int .i64 ep, .slice none 0 0, .bool false, .slice none 0 0]) | 8 => .boxn (wr.heap.size) #[.int .i64 0, .int .i64 0, .int .i64 0, .int .i64 0, .int .i64 0, .int .i64 0, .int .i64 0, .int .i64 0, .slice none 0 0, .bool false, .slice none 0 0] 51 | _ => .any) _ (by kernel_rfl) rfl rfl (by kernel_rfl) (by kernel_rfl) (fun i hi => by show (if i = 8 then 6 else 24 + i) < 66; (repeat' split) <;> omega) (fun i j hi hj => by show (if i = 8 then 6 else 24 + i) = (if j = 8 then 6 else 24 + j) → i = j; (repeat' split) <;> omega) ?step ?fin
      case step =>
        intro L_ A_ w3 ix op_ hi hI ho hdep
        have hcase : ix = 0 ∨ ix = 1 ∨ ix = 2 ∨ ix = 3 ∨ ix = 4 ∨ ix = 5 ∨ ix = 6 ∨ ix = 7 ∨ ix = 8 := by omega
        have hh := hI.held
        clear hi
        rcases hcase with rfl | rfl | rfl | rfl | rfl | rfl | rfl | rfl | rfl
        · simp only [List.getElem?_toArray, List.getElem?_cons_zero, Option.some.injEq] at ho
          subst ho
          refine ⟨rfl, ?_⟩
          have e3 : A_.tmps[3]?.getD undef = .slice (some ⟨g, 0, none⟩) j c1 := by rw [hI.low 3 (by decide)]; rfl
          clear hI hdep
          exact .run rfl (.slice (some ⟨g, 0, none⟩) j c1) w3 (by simp [execOp, go_sem, Act.eval, e3]) (Below.refl _ _) rfl
        · simp only [List.getElem?_toArray, List.getElem?_cons_succ, List.getElem?_cons_zero, Option.some.injEq] at ho
          subst ho
          refine ⟨rfl, ?_⟩
          have e24 : A_.tmps[24]?.getD undef = .slice (some ⟨g, 0, none⟩) j c1 := getD_of (hI.val_ (i := 0) rfl rfl (by decide) (hdep ⟨0, .data⟩ (by simp) rfl))
          clear hI hdep
          have h8 : 0 < j := by omega
          have h9 : ¬ ((j : Int) ≤ 0) := by omega
          exact .run rfl (.pointer (some ⟨g, 0, none⟩)) w3 (by simp [execOp, go_sem, Act.eval, *]) (Below.refl _ _) rfl
        · simp only [List.getElem?_toArray, List.getElem?_cons_succ, List.getElem?_cons_zero, Option.some.injEq] at ho
          subst ho
          refine ⟨rfl, ?_⟩
          have e25 : A_.tmps[25]?.getD undef = .pointer (some ⟨g, 0, none⟩) := getD_of (hI.val_ (i := 1) rfl rfl (by decide) (hdep ⟨1, .data⟩ (by simp) rfl))
          clear hI hdep
          have c0 := HKC.out w3 hh 0 (by omega)
          exact .run rfl (.int .i64 (NM.kL z 0)) w3 (by simp [execOp, go_sem, Act.eval, *]) (Below.refl _ _) rfl
        · simp only [List.getElem?_toArray, List.getElem?_cons_succ, List.getElem?_cons_zero, Option.some.injEq] at ho
          subst ho
          refine ⟨rfl, ?_⟩
          have e3 : A_.tmps[3]?.getD undef = .slice (some ⟨g, 0, none⟩) j c1 := by rw [hI.low 3 (by decide)]; rfl
          clear hI hdep
          exact .run rfl (.slice (some ⟨g, 0, none⟩) j c1) w3 (by simp [execOp, go_sem, Act.eval, e3]) (Below.refl _ _) rfl
        · simp only [List.getElem?_toArray, List.getElem?_cons_succ, List.getElem?_cons_zero, Option.some.injEq] at ho
          subst ho
          refine ⟨rfl, ?_⟩
          have e27 : A_.tmps[27]?.getD undef = .slice (some ⟨g, 0, none⟩) j c1 := getD_of (hI.val_ (i := 3) rfl rfl (by decide) (hdep ⟨3, .data⟩ (by simp) rfl))
          clear hI hdep
          have h8 : 1 < j := by omega
          have h9 : ¬ ((j : Int) ≤ 1) := by omega
          exact .run rfl (.pointer (some ⟨g, 1, none⟩)) w3 (by simp [execOp, go_sem, Act.eval, *]) (Below.refl _ _) rfl
        · simp only [List.getElem?_toArray, List.getElem?_cons_succ, List.getElem?_cons_zero, Option.some.injEq] at ho
          subst ho
          refine ⟨rfl, ?_⟩
          have e28 : A_.tmps[28]?.getD undef = .pointer (some ⟨g, 1, none⟩) := getD_of (hI.val_ (i := 4) rfl rfl (by decide) (hdep ⟨4, .data⟩ (by simp) rfl))
          clear hI hdep
          have c0 := HKC.out w3 hh 1 (by omega)
          exact .run rfl (.int .i64 (NM.kL z 1)) w3 (by simp [execOp, go_sem, Act.eval, *]) (Below.refl _ _) rfl
        · simp only [List.getElem?_toArray, List.getElem?_cons_succ, List.getElem?_cons_zero, Option.some.injEq] at ho
          subst ho
          refine ⟨rfl, ?_⟩
          have e26 : A_.tmps[26]?.getD undef = .int .i64 (NM.kL z 0) := getD_of (hI.val_ (i := 2) rfl rfl (by decide) (hdep ⟨2, .data⟩ (by simp) rfl))
          have e29 : A_.tmps[29]?.getD undef = .int .i64 (NM.kL z 1) := getD_of (hI.val_ (i := 5) rfl rfl (by decide) (hdep ⟨5, .data⟩ (by simp) rfl))
          clear hI hdep
          exact .call rfl 43 #[.int .i64 (NM.kL z 0), .int .i64 (NM.kL z 1)] (by simp [go_sem, Act.eval, e26, e29]) ((HEV.out w3).mono fun _ _ ⟨h1_, h2_⟩ => ⟨⟨_, h1_, rfl⟩, h2_⟩)
        · simp only [List.getElem?_toArray, List.getElem?_cons_succ, List.getElem?_cons_zero, Option.some.injEq] at ho
          subst ho
          refine ⟨rfl, ?_⟩
          have e30 : A_.tmps[30]?.getD undef = .agg #[.int .i64 ek, .int .i64 en, .int .i64 ea, .int .i64 ec, .int .i64 eh, .int .i64 et, .int .i64 ei, .int .i64 ep] := getD_of (hI.val_ (i := 6) rfl rfl (by decide) (hdep ⟨6, .data⟩ (by simp) rfl))
          clear hI hdep
          exact .run rfl (.agg #[.int .i64 ek, .int .i64 en, .int .i64 ea, .int .i64 ec, .int .i64 eh, .int .i64 et, .int .i64 ei, .int .i64 ep, .slice none 0 0, .bool false, .slice none 0 0]) w3 (by simp [execOp, go_sem, Act.eval, e30]) (Below.refl _ _) rfl
        · simp only [List.getElem?_toArray, List.getElem?_cons_succ, List.getElem?_cons_zero, Option.some.injEq] at ho
          subst ho
          refine ⟨rfl, ?_⟩
          clear hI hdep
          exact .run rfl (.pointer (some ⟨w3.heap.size, 0, none⟩)) (w3.alloc (.cells #[.int .i64 0, .int .i64 0, .int .i64 0, .int .i64 0, .int .i64 0, .int .i64 0, .int .i64 0, .int .i64 0, .slice none 0 0, .bool false, .slice none 0 0] 51)) (by simp [execOp, go_sem]) ((Below.refl _ _).alloc (Nat.le_refl _) _) ⟨_, rfl, heap_alloc_new _ _, hh.size⟩
      case fin =>
      intro A_ w3 hs hd hlow hS hok
      obtain ⟨_, hy6, g6, rfl, r6, l6⟩ := hok 8 6 _ (by decide) rfl rfl
      obtain rfl : A_ = ⟨#[.slice A n c, undef, .pointer (some ⟨w.heap.size, 0, none⟩), .slice (some ⟨g, 0, none⟩) j c1, .int .i64 ↑j, u5, .pointer (some ⟨g6, 0, none⟩), undef, .int .i64 ↑j, .bool false, u10, u11, u12, u13, u14, u15, u16, u17, u18, u19, u20, u21, u22, u23, .slice (some ⟨g, 0, none⟩) j c1, .pointer (some ⟨g, 0, none⟩), .int .i64 (NM.kL z 0), .slice (some ⟨g, 0, none⟩) j c1, .pointer (some ⟨g, 1, none⟩), .int .i64 (NM.kL z 1), .agg #[.int .i64 ek, .int .i64 en, .int .i64 ea, .int .i64 ec, .int .i64 eh, .int .i64 et, .int .i64 ei, .int .i64 ep], .agg #[.int .i64 ek, .int .i64 en, .int .i64 ea, .int .i64 ec, .int .i64 eh, .int .i64 et, .int .i64 ei, .int .i64 ep, .slice none 0 0, .bool false, .slice none 0 0], undef, undef, undef, undef, undef, undef, undef, undef, undef, undef, undef, undef, undef, undef, undef, undef, undef, undef, undef, undef, undef, undef, undef, undef, undef, undef, undef, undef, undef, undef, undef, undef, undef, undef], []⟩ := act_ext hd hs (fun j hj => match j, hj with | 0, _ => (hlow 0 (by decide)).trans rfl | 1, _ => (hlow 1 (by decide)).trans rfl | 2, _ => (hlow 2 (by decide)).trans rfl | 3, _ => (hlow 3 (by decide)).trans rfl | 4, _ => (hlow 4 (by decide)).trans rfl | 5, _ => (hlow 5 (by decide)).trans rfl | 6, _ => hy6 | 7, _ => (hlow 7 (by decide)).trans rfl | 8, _ => (hlow 8 (by decide)).trans rfl | 9, _ => (hlow 9 (by decide)).trans rfl | 10, _ => (hlow 10 (by decide)).trans rfl | 11, _ => (hlow 11 (by decide)).trans rfl | 12, _ => (hlow 12 (by decide)).trans rfl | 13, _ => (hlow 13 (by decide)).trans rfl | 14, _ => (hlow 14 (by decide)).trans rfl | 15, _ => (hlow 15 (by decide)).trans rfl | 16, _ => (hlow 16 (by decide)).trans rfl | 17, _ => (hlow 17 (by decide)).trans rfl | 18, _ => (hlow 18 (by decide)).trans rfl | 19, _ => (hlow 19 (by decide)).trans rfl | 20, _ => (hlow 20 (by decide)).trans rfl | 21, _ => (hlow 21 (by decide)).trans rfl | 22, _ => (hlow 22 (by decide)).trans rfl | 23, _ => (hlow 23 (by decide)).trans rfl | 24, _ => RgX.val_at (hok 0 24 _ (by decide) rfl rfl) | 25, _ => RgX.val_at (hok 1 25 _ (by decide) rfl rfl) | 26, _ => RgX.val_at (hok 2 26 _ (by decide) rfl rfl) | 27, _ => RgX.val_at (hok 3 27 _ (by decide) rfl rfl) | 28, _ => RgX.val_at (hok 4 28 _ (by decide) rfl rfl) | 29, _ => RgX.val_at (hok 5 29 _ (by decide) rfl rfl) | 30, _ => RgX.val_at (hok 6 30 _ (by decide) rfl rfl) | 31, _ => RgX.val_at (hok 7 31 _ (by decide) rfl rfl) | 32, _ => (hlow 32 (by decide)).trans rfl | 33, _ => (hlow 33 (by decide)).trans rfl | 34, _ => (hlow 34 (by decide)).trans rfl | 35, _ => (hlow 35 (by decide)).trans rfl | 36, _ => (hlow 36 (by decide)).trans rfl | 37, _ => (hlow 37 (by decide)).trans rfl | 38, _ => (hlow 38 (by decide)).trans rfl | 39, _ => (hlow 39 (by decide)).trans rfl | 40, _ => (hlow 40 (by decide)).trans rfl | 41, _ => (hlow 41 (by decide)).trans rfl | 42, _ => (hlow 42 (by decide)).trans rfl | 43, _ => (hlow 43 (by decide)).trans rfl | 44, _ => (hlow 44 (by decide)).trans rfl | 45, _ => (hlow 45 (by decide)).trans rfl | 46, _ => (hlow 46 (by decide)).trans rfl | 47, _ => (hlow 47 (by decide)).trans rfl | 48, _ => (hlow 48 (by decide)).trans rfl | 49, _ => (hlow 49 (by decide)).trans rfl | 50, _ => (hlow 50 (by decide)).trans rfl | 51, _ => (hlow 51 (by decide)).trans rfl | 52, _ => (hlow 52 (by decide)).trans rfl | 53, _ => (hlow 53 (by decide)).trans rfl | 54, _ => (hlow 54 (by decide)).trans rfl | 55, _ => (hlow 55 (by decide)).trans rfl | 56, _ => (hlow 56 (by decide)).trans rfl | 57, _ => (hlow 57 (by decide)).trans rfl | 58, _ => (hlow 58 (by decide)).trans rfl | 59, _ => (hlow 59 (by decide)).trans rfl | 60, _ => (hlow 60 (by decide)).trans rfl | 61, _ => (hlow 61 (by decide)).trans rfl | 62, _ => (hlow 62 (by decide)).trans rfl | 63, _ => (hlow 63 (by decide)).trans rfl | 64, _ => (hlow 64 (by decide)).trans rfl | 65, _ => (hlow 65 (by decide)).trans rfl | n + 66, h => absurd h (by show ¬ n + 66 < 66; omega))
      clear hs hd hlow hok hy6
      refine RgX.wpList_store_seg rfl 51 _ _ rfl g6 0 (.agg #[.int .i64 ek, .int .i64 en, .int .i64 ea, .int .i64 ec, .int .i64 eh, .int .i64 et, .int .i64 ei, .int .i64 ep, .slice none 0 0, .bool false, .slice none 0 0]) rfl rfl 51 _ r6 (by rw [size_step]; rfl) (by show 0 + 11 ≤ 11; omega) (by simp [Value.cells, Value.oneCell']) #[.int .i64 ek, .int .i64 en, .int .i64 ea, .int .i64 ec, .int .i64 eh, .int .i64 et, .int .i64 ei, .int .i64 ep, .slice none 0 0, .bool false, .slice none 0 0] rfl ?_
      intro W10 k10 ho10 hz10 hb10
      have hwW : Below wr.heap.size wr W10 := hS.trans (hb10.mono l6)
      have hg6 : g6 < W10.heap.size := heap_lt k10
      have HW := Lib.hid hwW
      have HK10 := Lib.hid (show ∀ i, i < 9 → W10.cell? ⟨g, i, none⟩ = some (.int .i64 (NM.kL z i)) from fun i hi => HKC.out W10 hwW i hi)
      have hgt := HG.out.2
      have hgne : g ≠ g6 := by omega
      have hgW : g < W10.heap.size := by have := hwW.size; omega
      have K10 := Lib.hid k10
      have hU6 : w.heap.size ≠ g6 := by omega
      have hUW : w.heap.size < W10.heap.size := by omega
      have KR := Lib.hid (show W10.heap[w.heap.size]? = _ from (hwW.block _ (by omega)).trans ((HV.out.block _ hltU).trans HR.out))
      have HWB := Lib.hid (show Below w.heap.size w W10 from HB.out.trans ((HV.out.trans (hwW.mono hsV)).mono HB.out.size))
      have hg6w : w.heap.size ≤ g6 := by omega
      clear hS ho10 hz10 hb10 r6 hwW k10
      obtain ⟨wo, hwo⟩ : ∃ W, W = wr := ⟨_, rfl⟩
      subst hwo
      go_wp2_with fail
      go_loopw [7] (fun i V => ∃ (k : Nat) (B : Option Addr) (cc : Nat), k ≤ m ∧ i = .int .i64 (k : Int) ∧ Hid (V.heap[g6]? = some (.cells #[.int .i64 ek, .int .i64 en, .int .i64 ea, .int .i64 ec, .int .i64 eh, .int .i64 et, .int .i64 ei, .int .i64 ep, .slice B k cc, .bool false, .slice none 0 0] 51 (0, 0))) ∧ Hid (AsksOwn V W10.heap.size B k cc (NM.stepAsks z k)) ∧ Hid (W10.grownBy V (some g6))) (fun i _ => m - (intOf i).toNat)
      case atStart => exact ⟨0, none, 0, by omega, rfl, K10, ⟨rfl, World.ownsRow_nil _ _ _ _⟩, ⟨rfl, rfl, rfl, Nat.le_refl _, fun _ _ _ => rfl⟩⟩
      case round =>
        obtain ⟨k, B, cc, hk, rfl, HBX, HAO, HGR⟩ := hrel
        have hsW := HGR.out.size
        have HKV := Lib.hid (fun (V : World) (hV : Below wr.heap.size wr V) (i : Nat) (hi : i < 9) => show V.cell? ⟨g, i, none⟩ = some (.int .i64 (NM.kL z i)) from (hV.cell (p := ⟨g, i, none⟩) (show g < wr.heap.size by omega)).trans ((World.cell?_of_block (HGR.out.block g hgW (by simpa using hgne))).trans (HK10.out i hi)))
        have HBV := Lib.hid (fun (V : World) (hV : Below wr.heap.size wr V) => row11 ((hV.block g6 (by omega)).trans HBX.out))
        have hlen := HAO.out.1
        have c2 := HKV.out wr (Below.refl _ _) 2 (by omega)
        by_cases hlt : k < m
        · have dk : decide (k < m) = true := decide_eq_true hlt
          have h44 : IntKind.i64.wrap (2 * (k : Int)) = 2 * (k : Int) := IntWalk.i64_in _ (by omega)
          have h45 : IntKind.i64.wrap (3 + 2 * (k : Int)) = 3 + 2 * (k : Int) := IntWalk.i64_in _ (by omega)
          have h51 : IntKind.i64.wrap (4 + 2 * (k : Int)) = 4 + 2 * (k : Int) := IntWalk.i64_in _ (by omega)
          have h57 : IntKind.i64.wrap (3 + (k : Int)) = 3 + (k : Int) := IntWalk.i64_in _ (by omega)
          have H44 := Lib.hid (And.intro h44 (And.intro h45 (And.intro h51 h57)))
          have HQ := Lib.hid (fun V => questionOf_any (NM.kL z (3 + 2 * k)) (NM.kL z (4 + 2 * k)) (H64.out _) (H64.out _) V)
          obtain ⟨⟨qc, qh, qt, qk, qi⟩, hQQ⟩ : ∃ E, NM.quOf (NM.kL z (3 + 2 * k)) (NM.kL z (4 + 2 * k)) = E := ⟨_, rfl⟩
          rw [hQQ] at HQ
          have HA3 := Lib.hid (fun V => (around_any (NM.kL z (3 + k)) 4 (H64.out _) (by omega) (by omega) V).mono fun e w' (h : e = _ ∧ V = w') => (show e = .returned (.int .i64 (NM.arI (NM.kL z (3 + k)) 4)) ∧ Below V.heap.size V w' from ⟨h.1, h.2 ▸ Below.refl _ _⟩))
          obtain ⟨a3, ha3⟩ : ∃ a3, NM.arI (NM.kL z (3 + k)) 4 = a3 := ⟨_, rfl⟩
          simp only [ha3] at HA3
          have HSA := Lib.hid (show NM.stepAsk z k = (⟨qc, qh, qt, qk, qi⟩, a3) by unfold NM.stepAsk; rw [hQQ, ha3])
          clear hQQ ha3 h44 h45 h51 h57
          go_wp2_with (go_at_call 35; refine (HAR'.out _).mono ?_; rintro e w5 ⟨rfl, rfl⟩)
          clear c2
          refine RgX.tail2 25 23 (fun i => ( 40 + i)) (fun ix_ => match ix_ with | 0 => .v (.pointer (some ⟨g6, 8, none⟩)) | 1 => .v (.slice B k cc) | 2 => .v (.slice (some ⟨g, 0, none⟩) j c1) | 3 => .v (.int .i64 ↑k) | 4 => .v (.int .i64 (2 * (k : Int))) | 5 => .v (.int .i64 (3 + 2 * (k : Int))) | 6 => .v (.pointer (some ⟨g, 3 + 2 * k, none⟩)) | 7 => .v (.int .i64 (NM.kL z (3 + 2 * k))) | 8 => .v (.slice (some ⟨g, 0, none⟩) j c1) | 9 => .v (.int .i64 ↑k) | 10 => .v (.int .i64 (2 * (k : Int))) | 11 => .v (.int .i64 (4 + 2 * (k : Int))) | 12 => .v (.pointer (some ⟨g, 4 + 2 * k, none⟩)) | 13 => .v (.int .i64 (NM.kL z (4 + 2 * k))) | 14 => .v (.agg #[.int .i64 qc, .int .i64 qh, .int .i64 qt, .int .i64 qk, .int .i64 qi]) | 15 => .v (.slice (some ⟨g, 0, none⟩) j c1) | 16 => .v (.int .i64 ↑k) | 17 => .v (.int .i64 (3 + (k : Int))) | 18 => .v (.pointer (some ⟨g, 3 + k, none⟩)) | 19 => .v (.int .i64 (NM.kL z (3 + k))) | 20 => .v (.int .i64 a3) | 21 => .v (.agg #[.int .i64 qc, .int .i64 qh, .int .i64 qt, .int .i64 qk, .int .i64 qi, .int .i64 4, .int .i64 a3]) | 22 => .row #[.int .i64 qc, .int .i64 qh, .int .i64 qt, .int .i64 qk, .int .i64 qi, .int .i64 4, .int .i64 a3] 96 1 | 23 => .any | 24 => .v (.pointer (some ⟨g6, 8, none⟩)) | _ => .any) [24] (fun ix_ => match ix_ with | 24 => .pointer (some ⟨g6, 8, none⟩) | _ => undef) _ _ (fun v w' => ∃ (B' : Option Addr) (c' : Nat), v = .slice B' (k + 1) c' ∧ ∃ V3, Below wr.heap.size wr V3 ∧ w'.ownsRow W10.heap.size 96 7 (.slice B' (k + 1) c') (k + 1) (asksC (NM.stepAsks z k) ++ [.int .i64 qc, .int .i64 qh, .int .i64 qt, .int .i64 qk, .int .i64 qi, .int .i64 4, .int .i64 a3]) ∧ V3.grownBy w' (Value.slice B k cc).ownBlock) (by kernel_rfl) rfl rfl (by decide) rfl (by kernel_rfl) (by kernel_rfl) (by kernel_rfl) (by decide) (fun i hi => by show ( 40 + i) < 66; (repeat' split) <;> omega) (fun i j hi hj => by show ( 40 + i) = ( 40 + j) → i = j; (repeat' split) <;> omega) ?step ?app ?flo ?hF ?fin
          case step =>
            intro L_ A_ w3 ix op_ hi hnA hI ho hdep
            have hcase : ix = 0 ∨ ix = 1 ∨ ix = 2 ∨ ix = 3 ∨ ix = 4 ∨ ix = 5 ∨ ix = 6 ∨ ix = 7 ∨ ix = 8 ∨ ix = 9 ∨ ix = 10 ∨ ix = 11 ∨ ix = 12 ∨ ix = 13 ∨ ix = 14 ∨ ix = 15 ∨ ix = 16 ∨ ix = 17 ∨ ix = 18 ∨ ix = 19 ∨ ix = 20 ∨ ix = 21 ∨ ix = 22 ∨ ix = 24 := by omega
            have hh := hI.held
            clear hi hnA
            rcases hcase with rfl | rfl | rfl | rfl | rfl | rfl | rfl | rfl | rfl | rfl | rfl | rfl | rfl | rfl | rfl | rfl | rfl | rfl | rfl | rfl | rfl | rfl | rfl | rfl
            · simp only [List.getElem?_toArray, List.getElem?_cons_zero, Option.some.injEq] at ho
              subst ho
              refine ⟨rfl, ?_⟩
              have e6 : A_.tmps[6]?.getD undef = .pointer (some ⟨g6, 0, none⟩) := by rw [hI.low 6 (by decide)]; rfl
              clear hI hdep
              exact .run rfl (.pointer (some ⟨g6, 8, none⟩)) w3 (by simp [execOp, go_sem, Act.eval, e6]) (Below.refl _ _) rfl
            · simp only [List.getElem?_toArray, List.getElem?_cons_succ, List.getElem?_cons_zero, Option.some.injEq] at ho
              subst ho
              refine ⟨rfl, ?_⟩
              have e40 : A_.tmps[40]?.getD undef = .pointer (some ⟨g6, 8, none⟩) := getD_of (hI.val_ (i := 0) rfl rfl (by decide) (hdep ⟨0, .data⟩ (by simp) rfl))
              clear hI hdep
              obtain ⟨f0, f1, f2, f3, f4, f5, f6, f7, f8, f9, f10⟩ := HBV.out w3 hh
              exact .run rfl (.slice B k cc) w3 (by simp [execOp, go_sem, Act.eval, *]) (Below.refl _ _) rfl
            · simp only [List.getElem?_toArray, List.getElem?_cons_succ, List.getElem?_cons_zero, Option.some.injEq] at ho
              subst ho
              refine ⟨rfl, ?_⟩
              have e3 : A_.tmps[3]?.getD undef = .slice (some ⟨g, 0, none⟩) j c1 := by rw [hI.low 3 (by decide)]; rfl
              clear hI hdep
              exact .run rfl (.slice (some ⟨g, 0, none⟩) j c1) w3 (by simp [execOp, go_sem, Act.eval, e3]) (Below.refl _ _) rfl
            · simp only [List.getElem?_toArray, List.getElem?_cons_succ, List.getElem?_cons_zero, Option.some.injEq] at ho
              subst ho
              refine ⟨rfl, ?_⟩
              have e7 : A_.tmps[7]?.getD undef = .int .i64 ↑k := by rw [hI.low 7 (by decide)]; rfl
              clear hI hdep
              exact .run rfl (.int .i64 ↑k) w3 (by simp [execOp, go_sem, Act.eval, e7]) (Below.refl _ _) rfl
            · simp only [List.getElem?_toArray, List.getElem?_cons_succ, List.getElem?_cons_zero, Option.some.injEq] at ho
              subst ho
              refine ⟨rfl, ?_⟩
              have e43 : A_.tmps[43]?.getD undef = .int .i64 ↑k := getD_of (hI.val_ (i := 3) rfl rfl (by decide) (hdep ⟨3, .data⟩ (by simp) rfl))
              clear hI hdep
              obtain ⟨h44, h45, h51, h57⟩ := H44.out
              exact .run rfl (.int .i64 (2 * (k : Int))) w3 (by simp [execOp, go_sem, Act.eval, *]) (Below.refl _ _) rfl
            · simp only [List.getElem?_toArray, List.getElem?_cons_succ, List.getElem?_cons_zero, Option.some.injEq] at ho
              subst ho
              refine ⟨rfl, ?_⟩
              have e44 : A_.tmps[44]?.getD undef = .int .i64 (2 * (k : Int)) := getD_of (hI.val_ (i := 4) rfl rfl (by decide) (hdep ⟨4, .data⟩ (by simp) rfl))
              clear hI hdep
              obtain ⟨h44, h45, h51, h57⟩ := H44.out
              exact .run rfl (.int .i64 (3 + 2 * (k : Int))) w3 (by simp [execOp, go_sem, Act.eval, *]) (Below.refl _ _) rfl
            · simp only [List.getElem?_toArray, List.getElem?_cons_succ, List.getElem?_cons_zero, Option.some.injEq] at ho
              subst ho
              refine ⟨rfl, ?_⟩
              have e42 : A_.tmps[42]?.getD undef = .slice (some ⟨g, 0, none⟩) j c1 := getD_of (hI.val_ (i := 2) rfl rfl (by decide) (hdep ⟨2, .data⟩ (by simp) rfl))
              have e45 : A_.tmps[45]?.getD undef = .int .i64 (3 + 2 * (k : Int)) := getD_of (hI.val_ (i := 5) rfl rfl (by decide) (hdep ⟨5, .data⟩ (by simp) rfl))
              clear hI hdep
              have h7 : ((3 + 2 * k : Nat) : Int) = 3 + 2 * (k : Int) := by omega
              have h8 : ((3 + 2 * (k : Int) : Int)).toNat = 3 + 2 * k := by omega
              have h9 : (3 + 2 * (k : Int) : Int) < (j : Int) := by omega
              have h6 : (0 : Int) ≤ 3 + 2 * (k : Int) := by omega
              exact .run rfl (.pointer (some ⟨g, 3 + 2 * k, none⟩)) w3 (by simp [execOp, go_sem, Act.eval, *]) (Below.refl _ _) rfl
            · simp only [List.getElem?_toArray, List.getElem?_cons_succ, List.getElem?_cons_zero, Option.some.injEq] at ho
              subst ho
              refine ⟨rfl, ?_⟩
              have e46 : A_.tmps[46]?.getD undef = .pointer (some ⟨g, 3 + 2 * k, none⟩) := getD_of (hI.val_ (i := 6) rfl rfl (by decide) (hdep ⟨6, .data⟩ (by simp) rfl))
              clear hI hdep
              have c0 := HKV.out w3 hh (3 + 2 * k) (by omega)
              exact .run rfl (.int .i64 (NM.kL z (3 + 2 * k))) w3 (by simp [execOp, go_sem, Act.eval, *]) (Below.refl _ _) rfl
            · simp only [List.getElem?_toArray, List.getElem?_cons_succ, List.getElem?_cons_zero, Option.some.injEq] at ho
              subst ho
              refine ⟨rfl, ?_⟩
              have e3 : A_.tmps[3]?.getD undef = .slice (some ⟨g, 0, none⟩) j c1 := by rw [hI.low 3 (by decide)]; rfl
              clear hI hdep
              exact .run rfl (.slice (some ⟨g, 0, none⟩) j c1) w3 (by simp [execOp, go_sem, Act.eval, e3]) (Below.refl _ _) rfl
            · simp only [List.getElem?_toArray, List.getElem?_cons_succ, List.getElem?_cons_zero, Option.some.injEq] at ho
              subst ho
              refine ⟨rfl, ?_⟩
              have e7 : A_.tmps[7]?.getD undef = .int .i64 ↑k := by rw [hI.low 7 (by decide)]; rfl
              clear hI hdep
              exact .run rfl (.int .i64 ↑k) w3 (by simp [execOp, go_sem, Act.eval, e7]) (Below.refl _ _) rfl
            · simp only [List.getElem?_toArray, List.getElem?_cons_succ, List.getElem?_cons_zero, Option.some.injEq] at ho
              subst ho
              refine ⟨rfl, ?_⟩
              have e49 : A_.tmps[49]?.getD undef = .int .i64 ↑k := getD_of (hI.val_ (i := 9) rfl rfl (by decide) (hdep ⟨9, .data⟩ (by simp) rfl))
              clear hI hdep
              obtain ⟨h44, h45, h51, h57⟩ := H44.out
              exact .run rfl (.int .i64 (2 * (k : Int))) w3 (by simp [execOp, go_sem, Act.eval, *]) (Below.refl _ _) rfl
            · simp only [List.getElem?_toArray, List.getElem?_cons_succ, List.getElem?_cons_zero, Option.some.injEq] at ho
              subst ho
              refine ⟨rfl, ?_⟩
              have e50 : A_.tmps[50]?.getD undef = .int .i64 (2 * (k : Int)) := getD_of (hI.val_ (i := 10) rfl rfl (by decide) (hdep ⟨10, .data⟩ (by simp) rfl))
              clear hI hdep
              obtain ⟨h44, h45, h51, h57⟩ := H44.out
              exact .run rfl (.int .i64 (4 + 2 * (k : Int))) w3 (by simp [execOp, go_sem, Act.eval, *]) (Below.refl _ _) rfl
            · simp only [List.getElem?_toArray, List.getElem?_cons_succ, List.getElem?_cons_zero, Option.some.injEq] at ho
              subst ho
              refine ⟨rfl, ?_⟩
              have e48 : A_.tmps[48]?.getD undef = .slice (some ⟨g, 0, none⟩) j c1 := getD_of (hI.val_ (i := 8) rfl rfl (by decide) (hdep ⟨8, .data⟩ (by simp) rfl))
              have e51 : A_.tmps[51]?.getD undef = .int .i64 (4 + 2 * (k : Int)) := getD_of (hI.val_ (i := 11) rfl rfl (by decide) (hdep ⟨11, .data⟩ (by simp) rfl))
              clear hI hdep
              have h7 : ((4 + 2 * k : Nat) : Int) = 4 + 2 * (k : Int) := by omega
              have h8 : ((4 + 2 * (k : Int) : Int)).toNat = 4 + 2 * k := by omega
              have h9 : (4 + 2 * (k : Int) : Int) < (j : Int) := by omega
              have h6 : (0 : Int) ≤ 4 + 2 * (k : Int) := by omega
              exact .run rfl (.pointer (some ⟨g, 4 + 2 * k, none⟩)) w3 (by simp [execOp, go_sem, Act.eval, *]) (Below.refl _ _) rfl
            · simp only [List.getElem?_toArray, List.getElem?_cons_succ, List.getElem?_cons_zero, Option.some.injEq] at ho
              subst ho
              refine ⟨rfl, ?_⟩
              have e52 : A_.tmps[52]?.getD undef = .pointer (some ⟨g, 4 + 2 * k, none⟩) := getD_of (hI.val_ (i := 12) rfl rfl (by decide) (hdep ⟨12, .data⟩ (by simp) rfl))
              clear hI hdep
              have c0 := HKV.out w3 hh (4 + 2 * k) (by omega)
              exact .run rfl (.int .i64 (NM.kL z (4 + 2 * k))) w3 (by simp [execOp, go_sem, Act.eval, *]) (Below.refl _ _) rfl
            · simp only [List.getElem?_toArray, List.getElem?_cons_succ, List.getElem?_cons_zero, Option.some.injEq] at ho
              subst ho
              refine ⟨rfl, ?_⟩
              have e47 : A_.tmps[47]?.getD undef = .int .i64 (NM.kL z (3 + 2 * k)) := getD_of (hI.val_ (i := 7) rfl rfl (by decide) (hdep ⟨7, .data⟩ (by simp) rfl))
              have e53 : A_.tmps[53]?.getD undef = .int .i64 (NM.kL z (4 + 2 * k)) := getD_of (hI.val_ (i := 13) rfl rfl (by decide) (hdep ⟨13, .data⟩ (by simp) rfl))
              clear hI hdep
              exact .call rfl 51 #[.int .i64 (NM.kL z (3 + 2 * k)), .int .i64 (NM.kL z (4 + 2 * k))] (by simp [go_sem, Act.eval, e47, e53]) ((HQ.out w3).mono fun _ _ ⟨h1_, h2_⟩ => ⟨⟨_, h1_, rfl⟩, h2_⟩)
            · simp only [List.getElem?_toArray, List.getElem?_cons_succ, List.getElem?_cons_zero, Option.some.injEq] at ho
              subst ho
              refine ⟨rfl, ?_⟩
              have e3 : A_.tmps[3]?.getD undef = .slice (some ⟨g, 0, none⟩) j c1 := by rw [hI.low 3 (by decide)]; rfl
              clear hI hdep
              exact .run rfl (.slice (some ⟨g, 0, none⟩) j c1) w3 (by simp [execOp, go_sem, Act.eval, e3]) (Below.refl _ _) rfl
            · simp only [List.getElem?_toArray, List.getElem?_cons_succ, List.getElem?_cons_zero, Option.some.injEq] at ho
              subst ho
              refine ⟨rfl, ?_⟩
              have e7 : A_.tmps[7]?.getD undef = .int .i64 ↑k := by rw [hI.low 7 (by decide)]; rfl
              clear hI hdep
              exact .run rfl (.int .i64 ↑k) w3 (by simp [execOp, go_sem, Act.eval, e7]) (Below.refl _ _) rfl
            · simp only [List.getElem?_toArray, List.getElem?_cons_succ, List.getElem?_cons_zero, Option.some.injEq] at ho
              subst ho
              refine ⟨rfl, ?_⟩
              have e56 : A_.tmps[56]?.getD undef = .int .i64 ↑k := getD_of (hI.val_ (i := 16) rfl rfl (by decide) (hdep ⟨16, .data⟩ (by simp) rfl))
              clear hI hdep
              obtain ⟨h44, h45, h51, h57⟩ := H44.out
              exact .run rfl (.int .i64 (3 + (k : Int))) w3 (by simp [execOp, go_sem, Act.eval, *]) (Below.refl _ _) rfl
            · simp only [List.getElem?_toArray, List.getElem?_cons_succ, List.getElem?_cons_zero, Option.some.injEq] at ho
              subst ho
              refine ⟨rfl, ?_⟩
              have e55 : A_.tmps[55]?.getD undef = .slice (some ⟨g, 0, none⟩) j c1 := getD_of (hI.val_ (i := 15) rfl rfl (by decide) (hdep ⟨15, .data⟩ (by simp) rfl))
              have e57 : A_.tmps[57]?.getD undef = .int .i64 (3 + (k : Int)) := getD_of (hI.val_ (i := 17) rfl rfl (by decide) (hdep ⟨17, .data⟩ (by simp) rfl))
              clear hI hdep
              have h7 : ((3 + k : Nat) : Int) = 3 + (k : Int) := by omega
              have h8 : ((3 + (k : Int) : Int)).toNat = 3 + k := by omega
              have h9 : (3 + (k : Int) : Int) < (j : Int) := by omega
              have h6 : (0 : Int) ≤ 3 + (k : Int) := by omega
              exact .run rfl (.pointer (some ⟨g, 3 + k, none⟩)) w3 (by simp [execOp, go_sem, Act.eval, *]) (Below.refl _ _) rfl
            · simp only [List.getElem?_toArray, List.getElem?_cons_succ, List.getElem?_cons_zero, Option.some.injEq] at ho
              subst ho
              refine ⟨rfl, ?_⟩
              have e58 : A_.tmps[58]?.getD undef = .pointer (some ⟨g, 3 + k, none⟩) := getD_of (hI.val_ (i := 18) rfl rfl (by decide) (hdep ⟨18, .data⟩ (by simp) rfl))
              clear hI hdep
              have c0 := HKV.out w3 hh (3 + k) (by omega)
              exact .run rfl (.int .i64 (NM.kL z (3 + k))) w3 (by simp [execOp, go_sem, Act.eval, *]) (Below.refl _ _) rfl
            · simp only [List.getElem?_toArray, List.getElem?_cons_succ, List.getElem?_cons_zero, Option.some.injEq] at ho
              subst ho
              refine ⟨rfl, ?_⟩
              have e59 : A_.tmps[59]?.getD undef = .int .i64 (NM.kL z (3 + k)) := getD_of (hI.val_ (i := 19) rfl rfl (by decide) (hdep ⟨19, .data⟩ (by simp) rfl))
              clear hI hdep
              exact .call rfl 35 #[.int .i64 (NM.kL z (3 + k)), .int .i64 4] (by simp [go_sem, Act.eval, e59]) ((HA3.out w3).mono fun _ _ ⟨h1_, h2_⟩ => ⟨⟨_, h1_, rfl⟩, h2_⟩)
            · simp only [List.getElem?_toArray, List.getElem?_cons_succ, List.getElem?_cons_zero, Option.some.injEq] at ho
              subst ho
              refine ⟨rfl, ?_⟩
              have e54 : A_.tmps[54]?.getD undef = .agg #[.int .i64 qc, .int .i64 qh, .int .i64 qt, .int .i64 qk, .int .i64 qi] := getD_of (hI.val_ (i := 14) rfl rfl (by decide) (hdep ⟨14, .data⟩ (by simp) rfl))
              have e60 : A_.tmps[60]?.getD undef = .int .i64 a3 := getD_of (hI.val_ (i := 20) rfl rfl (by decide) (hdep ⟨20, .data⟩ (by simp) rfl))
              clear hI hdep
              exact .run rfl (.agg #[.int .i64 qc, .int .i64 qh, .int .i64 qt, .int .i64 qk, .int .i64 qi, .int .i64 4, .int .i64 a3]) w3 (by simp [execOp, go_sem, Act.eval, e54, e60]) (Below.refl _ _) rfl
            · simp only [List.getElem?_toArray, List.getElem?_cons_succ, List.getElem?_cons_zero, Option.some.injEq] at ho
              subst ho
              refine ⟨rfl, ?_⟩
              have e61 : A_.tmps[61]?.getD undef = .agg #[.int .i64 qc, .int .i64 qh, .int .i64 qt, .int .i64 qk, .int .i64 qi, .int .i64 4, .int .i64 a3] := getD_of (hI.val_ (i := 21) rfl rfl (by decide) (hdep ⟨21, .data⟩ (by simp) rfl))
              clear hI hdep
              exact .run rfl (.slice (some ⟨w3.heap.size, 0, none⟩) 1 1) (w3.alloc (.cells #[.int .i64 qc, .int .i64 qh, .int .i64 qt, .int .i64 qk, .int .i64 qi, .int .i64 4, .int .i64 a3] 96)) (by simp [execOp, go_sem, Act.eval, e61]) ((Below.refl _ _).alloc (Nat.le_refl _) _) (RgX.row_new _ _ _ _)
            · simp only [List.getElem?_toArray, List.getElem?_cons_succ, List.getElem?_cons_zero, Option.some.injEq] at ho
              subst ho
              refine ⟨rfl, ?_⟩
              have e6 : A_.tmps[6]?.getD undef = .pointer (some ⟨g6, 0, none⟩) := by rw [hI.low 6 (by decide)]; rfl
              clear hI hdep
              exact .run rfl (.pointer (some ⟨g6, 8, none⟩)) w3 (by simp [execOp, go_sem, Act.eval, e6]) (Below.refl _ _) rfl
          case app =>
            intro A_ w3 hs hlow hh hok
            have e41 : A_.tmps[41]?.getD undef = .slice B k cc := getD_of (RgX.val_at (hok 1 41 _ (by decide) (by decide) (by decide) rfl rfl))
            obtain ⟨_, q62, g62, rfl, r62⟩ := hok 22 62 _ (by decide) (by decide) (by decide) rfl rfl
            have e62 : A_.tmps[62]?.getD undef = .slice (some ⟨g62, 0, none⟩) 1 1 := getD_of q62
            clear hs hlow hok
            refine ⟨rfl, rfl, ?_⟩
            obtain ⟨i1, hi1, hz1, hs1, hb1⟩ := RgX.info_split info_askS
            refine RgX.app_exec (.tmp 41) (.tmp 62) 48 rfl W10.heap.size 96 i1 _ 7 56 Try.underlying48 hi1 hz1 hs1 hb1 rfl (by decide) (.slice B k cc) k (asksC (NM.stepAsks z k)) (by simpa [Act.eval] using e41) (own_below HAO.out.2 hh) ⟨g62, 0, none⟩ 1 1 [.int .i64 qc, .int .i64 qh, .int .i64 qt, .int .i64 qk, .int .i64 qi, .int .i64 4, .int .i64 a3] (by simpa [Act.eval] using e62) rfl (World.news_of_block r62) (fun u hu => by simp at hu; rcases hu with rfl | rfl | rfl | rfl | rfl | rfl | rfl <;> rfl) (by decide) (by simp only [maxLen]; omega) (by omega) (by have := hh.size; omega) ?_
            intro B' c' w' hown' hgr'
            exact ⟨B', c', rfl, w3, hh, hown', hgr'⟩
          case flo =>
            intro i_ o_ A_ w3 hi ho hlow
            simp only [List.mem_cons, List.not_mem_nil, or_false] at hi
            rcases hi with rfl
            · simp only [List.getElem?_toArray, List.getElem?_cons_succ, List.getElem?_cons_zero, Option.some.injEq] at ho
              subst ho
              have e6 : A_.tmps[6]?.getD undef = .pointer (some ⟨g6, 0, none⟩) := by rw [hlow 6 (by decide)]; rfl
              exact ⟨rfl, rfl, by simp [execOp, go_sem, Act.eval, e6]⟩
          case hF =>
            intro i_ hi w_ y_ h_
            simp only [List.mem_cons, List.not_mem_nil, or_false] at hi
            rcases hi with rfl
            · exact h_
          case fin =>
          intro A_ w3 y_ hs hd hlow hy hG hfl hex
          obtain ⟨z40, hz40⟩ := hex 0 40 (by decide) rfl
          obtain ⟨z41, hz41⟩ := hex 1 41 (by decide) rfl
          obtain ⟨z42, hz42⟩ := hex 2 42 (by decide) rfl
          obtain ⟨z43, hz43⟩ := hex 3 43 (by decide) rfl
          obtain ⟨z44, hz44⟩ := hex 4 44 (by decide) rfl
          obtain ⟨z45, hz45⟩ := hex 5 45 (by decide) rfl
          obtain ⟨z46, hz46⟩ := hex 6 46 (by decide) rfl
          obtain ⟨z47, hz47⟩ := hex 7 47 (by decide) rfl
          obtain ⟨z48, hz48⟩ := hex 8 48 (by decide) rfl
          obtain ⟨z49, hz49⟩ := hex 9 49 (by decide) rfl
          obtain ⟨z50, hz50⟩ := hex 10 50 (by decide) rfl
          obtain ⟨z51, hz51⟩ := hex 11 51 (by decide) rfl
          obtain ⟨z52, hz52⟩ := hex 12 52 (by decide) rfl
          obtain ⟨z53, hz53⟩ := hex 13 53 (by decide) rfl
          obtain ⟨z54, hz54⟩ := hex 14 54 (by decide) rfl
          obtain ⟨z55, hz55⟩ := hex 15 55 (by decide) rfl
          obtain ⟨z56, hz56⟩ := hex 16 56 (by decide) rfl
          obtain ⟨z57, hz57⟩ := hex 17 57 (by decide) rfl
          obtain ⟨z58, hz58⟩ := hex 18 58 (by decide) rfl
          obtain ⟨z59, hz59⟩ := hex 19 59 (by decide) rfl
          obtain ⟨z60, hz60⟩ := hex 20 60 (by decide) rfl
          obtain ⟨z61, hz61⟩ := hex 21 61 (by decide) rfl
          obtain ⟨z62, hz62⟩ := hex 22 62 (by decide) rfl
          obtain rfl : A_ = ⟨#[.slice A n c, undef, .pointer (some ⟨w.heap.size, 0, none⟩), .slice (some ⟨g, 0, none⟩) j c1, .int .i64 ↑j, u5, .pointer (some ⟨g6, 0, none⟩), .int .i64 ↑k, .int .i64 ↑j, .bool false, u10, u11, u12, u13, u14, u15, u16, u17, u18, u19, u20, u21, u22, u23, .slice (some ⟨g, 0, none⟩) j c1, .pointer (some ⟨g, 0, none⟩), .int .i64 (NM.kL z 0), .slice (some ⟨g, 0, none⟩) j c1, .pointer (some ⟨g, 1, none⟩), .int .i64 (NM.kL z 1), .agg #[.int .i64 ek, .int .i64 en, .int .i64 ea, .int .i64 ec, .int .i64 eh, .int .i64 et, .int .i64 ei, .int .i64 ep], .agg #[.int .i64 ek, .int .i64 en, .int .i64 ea, .int .i64 ec, .int .i64 eh, .int .i64 et, .int .i64 ei, .int .i64 ep, .slice none 0 0, .bool false, .slice none 0 0], .int .i64 ↑k, .slice (some ⟨g, 0, none⟩) j c1, .pointer (some ⟨g, 2, none⟩), .int .i64 (NM.kL z 2), .int .i64 ↑m, .bool true, u38, u39, z40, z41, z42, z43, z44, z45, z46, z47, z48, z49, z50, z51, z52, z53, z54, z55, z56, z57, z58, z59, z60, z61, z62, y_, .pointer (some ⟨g6, 8, none⟩), undef], []⟩ := act_ext hd hs (fun j hj => match j, hj with | 0, _ => (hlow 0 (by decide)).trans rfl | 1, _ => (hlow 1 (by decide)).trans rfl | 2, _ => (hlow 2 (by decide)).trans rfl | 3, _ => (hlow 3 (by decide)).trans rfl | 4, _ => (hlow 4 (by decide)).trans rfl | 5, _ => (hlow 5 (by decide)).trans rfl | 6, _ => (hlow 6 (by decide)).trans rfl | 7, _ => (hlow 7 (by decide)).trans rfl | 8, _ => (hlow 8 (by decide)).trans rfl | 9, _ => (hlow 9 (by decide)).trans rfl | 10, _ => (hlow 10 (by decide)).trans rfl | 11, _ => (hlow 11 (by decide)).trans rfl | 12, _ => (hlow 12 (by decide)).trans rfl | 13, _ => (hlow 13 (by decide)).trans rfl | 14, _ => (hlow 14 (by decide)).trans rfl | 15, _ => (hlow 15 (by decide)).trans rfl | 16, _ => (hlow 16 (by decide)).trans rfl | 17, _ => (hlow 17 (by decide)).trans rfl | 18, _ => (hlow 18 (by decide)).trans rfl | 19, _ => (hlow 19 (by decide)).trans rfl | 20, _ => (hlow 20 (by decide)).trans rfl | 21, _ => (hlow 21 (by decide)).trans rfl | 22, _ => (hlow 22 (by decide)).trans rfl | 23, _ => (hlow 23 (by decide)).trans rfl | 24, _ => (hlow 24 (by decide)).trans rfl | 25, _ => (hlow 25 (by decide)).trans rfl | 26, _ => (hlow 26 (by decide)).trans rfl | 27, _ => (hlow 27 (by decide)).trans rfl | 28, _ => (hlow 28 (by decide)).trans rfl | 29, _ => (hlow 29 (by decide)).trans rfl | 30, _ => (hlow 30 (by decide)).trans rfl | 31, _ => (hlow 31 (by decide)).trans rfl | 32, _ => (hlow 32 (by decide)).trans rfl | 33, _ => (hlow 33 (by decide)).trans rfl | 34, _ => (hlow 34 (by decide)).trans rfl | 35, _ => (hlow 35 (by decide)).trans rfl | 36, _ => (hlow 36 (by decide)).trans rfl | 37, _ => (hlow 37 (by decide)).trans rfl | 38, _ => (hlow 38 (by decide)).trans rfl | 39, _ => (hlow 39 (by decide)).trans rfl | 40, _ => hz40 | 41, _ => hz41 | 42, _ => hz42 | 43, _ => hz43 | 44, _ => hz44 | 45, _ => hz45 | 46, _ => hz46 | 47, _ => hz47 | 48, _ => hz48 | 49, _ => hz49 | 50, _ => hz50 | 51, _ => hz51 | 52, _ => hz52 | 53, _ => hz53 | 54, _ => hz54 | 55, _ => hz55 | 56, _ => hz56 | 57, _ => hz57 | 58, _ => hz58 | 59, _ => hz59 | 60, _ => hz60 | 61, _ => hz61 | 62, _ => hz62 | 63, _ => hy | 64, _ => hfl 24 (by decide) | 65, _ => (hlow 65 (by decide)).trans rfl | n + 66, h => absurd h (by show ¬ n + 66 < 66; omega))
          clear hs hd hlow hy hfl hex hz40 hz41 hz42 hz43 hz44 hz45 hz46 hz47 hz48 hz49 hz50 hz51 hz52 hz53 hz54 hz55 hz56 hz57 hz58 hz59 hz60 hz61 hz62
          obtain ⟨B', c', rfl, V3, hV3, hown', hgr'⟩ := hG
          have hob : ∀ b, (Value.slice B k cc).ownBlock = some b → W10.heap.size ≤ b := fun b hb => (HAO.out.2.lt b hb).1
          have hbx : w3.heap[g6]? = some (.cells #[.int .i64 ek, .int .i64 en, .int .i64 ea, .int .i64 ec, .int .i64 eh, .int .i64 et, .int .i64 ei, .int .i64 ep, .slice B k cc, .bool false, .slice none 0 0] 51 (0, 0)) := (hgr'.block g6 (by have := hV3.size; omega) (fun e => by have := hob _ e.symm; omega)).trans ((hV3.block g6 (by omega)).trans HBX.out)
          refine RgX.wpList_store_seg rfl 48 _ _ rfl g6 8 (.slice B' (k + 1) c') rfl rfl 51 _ hbx (by rw [size_asks]; rfl) (by show 8 + 1 ≤ 11; omega) (by simp [Value.cells, Value.oneCell']) #[.int .i64 ek, .int .i64 en, .int .i64 ea, .int .i64 ec, .int .i64 eh, .int .i64 et, .int .i64 ei, .int .i64 ep, .slice B' (k + 1) c', .bool false, .slice none 0 0] rfl ?_
          intro W11 k11 ho11 hz11 hb11
          have hgr11 : w3.grownBy W11 (some g6) := ⟨hb11.os, hb11.tape, hb11.output, by omega, fun b _ hne => ho11 b (fun e => hne (by rw [e]))⟩
          have hown11 := hown'.kept hgr11 (.inr (fun e => by have := (hown'.lt g6 e).1; omega))
          have hfr : W10.grownBy W11 (some g6) := ⟨hb11.os.trans (hgr'.os.trans (hV3.os.trans HGR.out.os)), hb11.tape.trans (hgr'.tape.trans (hV3.tape.trans HGR.out.tape)), hb11.output.trans (hgr'.output.trans (hV3.output.trans HGR.out.output)), by have := hgr'.size; have := hV3.size; omega, fun b hb hne => (ho11 b (fun e => hne (by rw [e]))).trans ((hgr'.block b (by have := hV3.size; omega) (fun e => by have := hob _ e.symm; omega)).trans ((hV3.block b (by omega)).trans (HGR.out.block b hb hne)))⟩
          have K11 := Lib.hid k11
          have O11 := Lib.hid (show AsksOwn W11 W10.heap.size B' (k + 1) c' (NM.stepAsks z (k + 1)) from ⟨NM.stepAsks_len _ _, by rw [NM.stepAsks_succ, asksC_app, HSA.out]; exact hown11⟩)
          have F11 := Lib.hid hfr
          clear k11 ho11 hz11 hb11 hgr11 hown11 hfr hown' hgr' hV3 hbx hob
          go_wp2_with fail
          go_roundw
          case rel => exact ⟨k + 1, B', c', by omega, by go_num, K11, O11, F11⟩
          case measure => simp [intOf]; omega
        · have dk : decide (k < m) = false := decide_eq_false hlt
          obtain rfl : k = m := by omega
          obtain ⟨f0, f1, f2, f3, f4, f5, f6, f7, f8, f9, f10⟩ := HBV.out wr (Below.refl _ _)
          have hres : wr.heap[w.heap.size]? = _ := (HGR.out.block _ hUW (by simpa using hU6)).trans KR.out
          have HRES := Lib.hid hres
          clear hres
          go_wp2_with (first | (go_at_call 35; refine (HAR'.out _).mono ?_; rintro e w5 ⟨rfl, rfl⟩) | (refine RgX.wpList_store_seg rfl 51 _ _ rfl w.heap.size 0 (.agg #[.int .i64 ek, .int .i64 en, .int .i64 ea, .int .i64 ec, .int .i64 eh, .int .i64 et, .int .i64 ei, .int .i64 ep, .slice B k cc, .bool false, .slice none 0 0]) rfl rfl 51 _ HRES.out (by rw [size_step]; rfl) (by show 0 + 11 ≤ 11; omega) (by simp [Value.cells, Value.oneCell']) #[.int .i64 ek, .int .i64 en, .int .i64 ea, .int .i64 ec, .int .i64 eh, .int .i64 et, .int .i64 ei, .int .i64 ep, .slice B k cc, .bool false, .slice none 0 0] rfl ?_; intro W12 k12 ho12 hz12 hb12))
          obtain ⟨r0, r1, r2, r3, r4, r5, r6, r7, r8, r9, r10⟩ := row11 k12
          have hst : NM.stepEv z = ⟨ek, en, ea, ⟨ec, eh, et, ei, ep⟩⟩ := HEE.out
          have hgr12 : wr.grownBy W12 (some w.heap.size) := ⟨hb12.os, hb12.tape, hb12.output, by omega, fun b _ hne => ho12 b (fun e => hne (by rw [e]))⟩
          have hown := own_base (HAO.out.2.kept hgr12 (.inr (fun e => by have := (HAO.out.2.lt _ e).1; omega))) (show w.heap.size ≤ W10.heap.size by omega)
          have hbl : Below w.heap.size w wr := HWB.out.grown HGR.out (by omega) (fun b e => by injection e with e; omega)
          refine bodyPost_ret (v := .agg #[.int .i64 ek, .int .i64 en, .int .i64 ea, .int .i64 ec, .int .i64 eh, .int .i64 et, .int .i64 ei, .int .i64 ep, .slice B k cc, .bool false, .slice none 0 0]) (by simp [results, Try.results25, go_sem, r0, r1, r2, r3, r4, r5, r6, r7, r8, r9, r10]) rfl ?_
          refine ⟨B, cc, ?_, ?_, hbl.trans hb12⟩
          · rw [hst, HM.out]
          · rw [HM.out]
            exact ⟨HAO.out.1, hown⟩
end Go.Proofs.Ytiokiecnglmbnaa
