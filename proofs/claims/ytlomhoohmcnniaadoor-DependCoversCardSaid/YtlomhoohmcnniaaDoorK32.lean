/-
  The contract of copyOf: a run with the same steps, its rows too, in blocks of its own. Condition: the run lies in memory, and has a step.
-/
import Derived.Test.YtlomhoohmcnniaaDoorK29
import Derived.Test.YtlomhoohmcnniaaDoorK2
import Derived.Test.YtlomhoohmcnniaaDoorK31
import Derived.Test.YtlomhoohmcnniaaDoorK25
import Derived.Deep.Cut

namespace Go.Proofs.YtlomhoohmcnniaaDoor
open Go Go.RowKit Go.Proofs
attribute [local go_sem] Oper.semAt_some

/-- What a step holds, wherever its rows lie. -/
def DP.core (s : DP.St) : NM.Ev × List DP.Qa × Bool × List NM.Ms := (s.ev, s.qs, s.ob, s.ms)
/-- Block g holds the run at its head. -/
structure RB (W : World) (lo g n c : Nat) (R : List DP.St) : Prop where
  len : R.length = n
  nc : n ≤ c
  cap : c ≤ maxLen
  lo : lo ≤ g
  blk : ∃ C, W.heap[g]? = some (.cells C 52 (0, 0)) ∧ n * 11 ≤ C.size ∧ ∀ (j : Nat) (x : DP.St) (o : Nat) (u : Value), R[j]? = some x → (stE.f x)[o]? = some u → C[j * 11 + o]? = some u
section
variable {W W' : World} {lo g n c : Nat} {R : List DP.St}
theorem RB.lt (h : RB W lo g n c R) : g < W.heap.size := by
  obtain ⟨C, h1, _⟩ := h.blk
  exact heap_lt h1
theorem RB.keep (h : RB W lo g n c R) (hb : Below W.heap.size W W') : RB W' lo g n c R := by
  obtain ⟨C, h1, h2⟩ := h.blk
  exact ⟨h.len, h.nc, h.cap, h.lo, C, (hb.block g (heap_lt h1)).trans h1, h2⟩
theorem RB.free (h : RB W lo g n c R) (j : Nat) : W.frozen? ⟨g, j, none⟩ = false := by
  obtain ⟨C, h1, _⟩ := h.blk
  simp [World.frozen?, h1]
theorem RB.at_ (h : RB W lo g n c R) {j : Nat} {s : DP.St} (hj : R[j]? = some s) : StAt W g (j * 11) s := by
  obtain ⟨C, h1, h2, h3⟩ := h.blk
  have key : ∀ o u, (stE.f s)[o]? = some u → W.cell? ⟨g, j * 11 + o, none⟩ = some u := fun o u hu => (cell_of_row W g (j * 11 + o) _ _ (0, 0) h1).trans (h3 j s o u hj hu)
  exact ⟨key 0 _ rfl, key 1 _ rfl, key 2 _ rfl, key 3 _ rfl, key 4 _ rfl, key 5 _ rfl, key 6 _ rfl, key 7 _ rfl, key 8 _ rfl, key 9 _ rfl, key 10 _ rfl⟩
theorem RB.sl (h : RB W lo g n c R) : RS.Sl stE W (some ⟨g, 0, none⟩) n c R := by
  obtain ⟨C, h1, h2, h3⟩ := h.blk
  exact ⟨h.len, h.nc, h.cap, .inr ⟨g, rfl, heap_lt h1, fun j x hj o u hu => (cell_of_row W g (j * 11 + o) _ _ (0, 0) h1).trans (h3 j x o u hj hu)⟩⟩
theorem RB.of_own {A : Option Addr} (h : W.ownsRow lo 52 11 (.slice A n c) n (RS.flat stE R)) (hl : R.length = n) (h0 : 0 < n) : ∃ g, A = some ⟨g, 0, none⟩ ∧ RB W lo g n c R := by
  have hs := RS.Sl.of_own h hl
  rcases h.2 with ⟨e, _⟩ | ⟨g, cap, cur, e, h1, h2, h3, h4, h5, _⟩
  · injection e with _ e _
    omega
  · injection e with e1 e2 e3
    subst e1 e3
    refine ⟨g, rfl, hl, hs.2.1, hs.2.2.1, h1, cur, h2, ?_, fun j x o u hj hu => ?_⟩
    · have := h5
      have := Nat.mul_le_mul_right 11 h3
      omega
    · rcases hs.2.2.2 with ⟨e, _⟩ | ⟨g', e, _, hx⟩
      · cases e
      · injection e with e
        injection e with e
        subst e
        exact (cell_of_row W g (j * 11 + o) _ _ (0, 0) h2).symm.trans (hx j x hj o u hu)
/-- One cell of step j is set. -/
theorem RB.set (h : RB W lo g n c R) {j o : Nat} {s s' : DP.St} {v : Value} (hj : R[j]? = some s) (ho : o < 11) (h1 : (stE.f s')[o]? = some v) (h2 : ∀ p, p ≠ o → (stE.f s')[p]? = (stE.f s)[p]?) : RB (W.setCell ⟨g, j * 11 + o, none⟩ v) lo g n c (R.set j s') := by
  obtain ⟨C, c1, c2, c3⟩ := h.blk
  have hjl := (List.getElem?_eq_some_iff.1 hj).1
  have hln := h.len
  refine ⟨by rw [List.length_set]; exact h.len, h.nc, h.cap, h.lo, C.setIfInBounds (j * 11 + o) v, ?_, by simpa using c2, fun q x p u hq hu => ?_⟩
  · simp only [World.setCell, Array.getElem?_modify, ↓reduceIte, c1, Option.map_some]
    rfl
  · have hp : p < 11 := by
      have := (List.getElem?_eq_some_iff.1 hu).1
      exact this
    rw [Array.getElem?_setIfInBounds]
    by_cases e : q = j
    · subst e
      rw [List.getElem?_set_self hjl] at hq
      injection hq with hq
      subst hq
      by_cases e2 : p = o
      · subst e2
        rw [if_pos rfl, if_pos (by omega), ← h1, hu]
      · rw [if_neg (by omega)]
        exact c3 q s p u hj (by rw [← h2 p e2]; exact hu)
    · rw [List.getElem?_set_ne (fun e2 => e e2.symm)] at hq
      rw [if_neg (by omega)]
      exact c3 q x p u hq hu
end
/-- A slice of these asks, of these messages, in blocks from lo on. -/
def RgX.Sp.asks (lo : Nat) (l : List DP.Qa) : RgX.Sp := ⟨fun w x => ∃ A c, x = .slice A l.length c ∧ RS.Sl qaE w A l.length c l ∧ ∀ b, A = some b → lo ≤ b.block, fun ⟨A, c, e, h, h2⟩ hb => ⟨A, c, e, h.keep hb, h2⟩⟩
def RgX.Sp.msgs (lo : Nat) (l : List NM.Ms) : RgX.Sp := ⟨fun w x => ∃ A c, x = .slice A l.length c ∧ RS.Sl msE w A l.length c l ∧ ∀ b, A = some b → lo ≤ b.block, fun ⟨A, c, e, h, h2⟩ hb => ⟨A, c, e, h.keep hb, h2⟩⟩
theorem own_lo {w : World} {b n c : Nat} {e : TypeId} {size : Nat} {A : Option Addr} {xs : List Value} (h : w.ownsRow b e size (.slice A n c) n xs) : ∀ a, A = some a → b ≤ a.block := fun a e => by
  subst e
  rcases h.2 with ⟨e, _⟩ | ⟨g, cap, cur, e, h1, _⟩
  · cases e
  · injection e with e
    injection e with e
    subst e
    exact h1
theorem RgX.Sp.asks_calls {P : Program} {f : FuncId} {args : Array Value} {w : World} {lo : Nat} {l : List DP.Qa} (hlo : lo ≤ w.heap.size) (h : Calls P f args w fun e w' => ∃ A' c', e = .returned (.slice A' l.length c') ∧ w'.ownsRow w.heap.size 59 7 (.slice A' l.length c') l.length (RS.flat qaE l) ∧ Below w.heap.size w w') : Calls P f args w fun e w' => (∃ v, e = .returned v ∧ (RgX.Sp.asks lo l).p w' v) ∧ Below w.heap.size w w' :=
  h.mono fun _ _ ⟨A', c', h1, h2, h3⟩ => ⟨⟨_, h1, A', c', rfl, RS.Sl.of_own h2 rfl, fun a e => Nat.le_trans hlo (own_lo h2 a e)⟩, h3⟩
theorem RgX.Sp.msgs_calls {P : Program} {f : FuncId} {args : Array Value} {w : World} {lo : Nat} {l : List NM.Ms} (hlo : lo ≤ w.heap.size) (h : Calls P f args w fun e w' => ∃ A' c', e = .returned (.slice A' l.length c') ∧ w'.ownsRow w.heap.size 46 5 (.slice A' l.length c') l.length (RS.flat msE l) ∧ Below w.heap.size w w') : Calls P f args w fun e w' => (∃ v, e = .returned v ∧ (RgX.Sp.msgs lo l).p w' v) ∧ Below w.heap.size w w' :=
  h.mono fun _ _ ⟨A', c', h1, h2, h3⟩ => ⟨⟨_, h1, A', c', rfl, RS.Sl.of_own h2 rfl, fun a e => Nat.le_trans hlo (own_lo h2 a e)⟩, h3⟩
theorem Sl_ne {α : Type} {E : RS.Enc α} {w w' : World} {A : Option Addr} {n c g : Nat} {l : List α} (h : RS.Sl E w A n c l) (hn : ∀ b, A = some b → b.block ≠ g) (hz : w.heap.size ≤ w'.heap.size) (ho : ∀ b, b ≠ g → w'.heap[b]? = w.heap[b]?) : RS.Sl E w' A n c l := by
  obtain ⟨h1, h2, h3, h4⟩ := h
  refine ⟨h1, h2, h3, ?_⟩
  rcases h4 with h4 | ⟨q, e, hq, hx⟩
  · exact .inl h4
  · have := hn _ e
    refine .inr ⟨q, e, Nat.lt_of_lt_of_le hq hz, fun j x hj o u hu => ?_⟩
    have h5 := hx j x hj o u hu
    unfold World.cell? at h5 ⊢
    simp only at h5 ⊢
    rw [ho q this]
    exact h5
/-- The step's rows lie in memory, and not in block g. -/
structure StG (w : World) (g : Nat) (s : DP.St) : Prop where
  inn : StIn w s
  q : ∀ b, s.qB = some b → b.block ≠ g
  s : ∀ b, s.sB = some b → b.block ≠ g
theorem StG.keep {w w' : World} {g : Nat} {s : DP.St} (h : StG w g s) (hb : Below w.heap.size w w') : StG w' g s := ⟨h.inn.keep hb, h.q, h.s⟩
theorem StG.ne {w w' : World} {g : Nat} {s : DP.St} (h : StG w g s) (hz : w.heap.size ≤ w'.heap.size) (ho : ∀ b, b ≠ g → w'.heap[b]? = w.heap[b]?) : StG w' g s :=
  ⟨⟨Sl_ne h.inn.qs h.q hz ho, Sl_ne h.inn.ms h.s hz ho, h.inn.ql, h.inn.ml⟩, h.q, h.s⟩
theorem Sl_lt {α : Type} {E : RS.Enc α} {w : World} {A : Option Addr} {n c : Nat} {l : List α} (h : RS.Sl E w A n c l) : ∀ b, A = some b → b.block < w.heap.size := fun b e => by
  rcases h.2.2.2 with ⟨e2, _⟩ | ⟨q, e2, hq, _⟩
  · rw [e] at e2
    cases e2
  · rw [e] at e2
    injection e2 with e2
    subst e2
    exact hq
theorem all_set {R : List DP.St} {P : DP.St → Prop} {k : Nat} {y : DP.St} (h : ∀ x ∈ R, P x) (hy : P y) : ∀ x ∈ R.set k y, P x := fun x hx => by
  rcases List.mem_or_eq_of_mem_set hx with h1 | h1
  · exact h x h1
  · exact h1 ▸ hy
theorem set_other_blk (V : World) (g j : Nat) (v : Value) : ∀ b, b ≠ g → (V.setCell ⟨g, j, none⟩ v).heap[b]? = V.heap[b]? := fun _ hb => Below.heap_setCell _ _ _ _ hb
theorem core_set {R : List DP.St} {j : Nat} {s s' : DP.St} (hj : R[j]? = some s) (h : DP.core s' = DP.core s) : (R.set j s').map DP.core = R.map DP.core := by
  apply List.ext_getElem?
  intro q
  rw [List.getElem?_map, List.getElem?_map]
  by_cases e : q = j
  · subst e
    rw [List.getElem?_set_self (List.getElem?_eq_some_iff.1 hj).1, hj]
    simp [h]
  · rw [List.getElem?_set_ne (fun e2 => e e2.symm)]
set_option maxRecDepth 100000 in
set_option maxHeartbeats 8000000 in
theorem copyOf_any {w : World} {A : Option Addr} {n c : Nat} {R : List DP.St} (hR : Run w A n c R) (h0 : 0 < n) (hn : n ≤ 14) :
    Calls Tryd.prog 32 #[.slice A n c] w fun e w' => ∃ g c' R', e = .returned (.slice (some ⟨g, 0, none⟩) n c') ∧ RB w' w.heap.size g n c' R' ∧ (∀ s ∈ R', StG w' g s) ∧ R'.map DP.core = R.map DP.core ∧ Below w.heap.size w w' := by
  have HCL := Lib.hid (cloneSt_any w hR.sl (by omega))
  have HR := Lib.hid hR
  have HLN := Lib.hid hR.sl.len
  clear hR
  go_enter Tryd.func32, Tryd.ntmps32
  go_wp2_with (first
    | (go_at_call 49
       refine HCL.out.mono ?_
       clear HCL
       rintro e w1 ⟨A1, c1, rfl, hown1, hb1⟩
       obtain ⟨g, rfl, hrb1⟩ := RB.of_own hown1 HLN.out h0
       have HRB1 := Lib.hid hrb1
       have HIN1 := Lib.hid (fun s hs => ⟨(HR.out.inn s hs).keep hb1, fun b e => by have := Sl_lt (HR.out.inn s hs).qs b e; have := hrb1.lo; omega, fun b e => by have := Sl_lt (HR.out.inn s hs).ms b e; have := hrb1.lo; omega⟩ : ∀ s ∈ R, StG w1 g s)
       have HB1 := Lib.hid hb1
       clear hown1 hrb1 hb1))
  go_loopw [10] (fun i V => ∃ (k : Nat) (R1 : List DP.St), i = .int .i64 (k : Int) ∧ k ≤ n ∧ Hid (RB V w.heap.size g n c1 R1) ∧ Hid (∀ s ∈ R1, StG V g s) ∧ Hid (R1.map DP.core = R.map DP.core) ∧ Hid (Below w.heap.size w V)) (fun i _ => n - (intOf i).toNat)
  case atStart => exact ⟨0, R, rfl, Nat.zero_le _, HRB1.out, HIN1.out, rfl, HB1.out⟩
  case round =>
    obtain ⟨k, R1, rfl, hkn, hrb, hin, hco, hbl⟩ := hrel
    obtain ⟨wo, hwo⟩ : ∃ W, W = wr := ⟨_, rfl⟩
    subst hwo
    clear HRB1 HIN1 HB1
    by_cases hk : k < n
    · obtain ⟨s, hs⟩ : ∃ s, R1[k]? = some s := ⟨_, List.getElem?_eq_getElem (by rw [hrb.out.len]; exact hk)⟩
      have hst := hin.out s (List.mem_of_getElem? hs)
      obtain ⟨c0, c1', c2, c3, c4, c5, c6, c7, c8, c9, c10⟩ := hrb.out.at_ hs
      obtain ⟨V1, hV1⟩ : ∃ U, wo.alloc (stO s) = U := ⟨_, rfl⟩
      have hb1 : Below wo.heap.size wo V1 := by rw [← hV1]; exact (Below.refl _ _).alloc (Nat.le_refl _) _
      have hsx : StBx V1 wo.heap.size s := by rw [← hV1]; exact StBx.new wo s
      go_upto_region 5 with (fail)
      try rw [hV1]
      clear hV1 c0 c1' c2 c3 c4 c5 c6 c7 c8 c9 c10
      have HSX := Lib.hid hsx
      have HS := Lib.hid hs
      have HRB := Lib.hid (hrb.out.keep hb1)
      have HIN := Lib.hid (fun x hx => (hin.out x hx).keep hb1 : ∀ x ∈ R1, StG V1 g x)
      have HBL := Lib.hid (hbl.out.trans (hb1.mono hbl.out.size))
      have HCA : Hid (∀ V, Below V1.heap.size V1 V → Calls Tryd.prog 50 #[.slice s.qB s.qs.length s.qc] V fun e w' => ∃ A' c', e = .returned (.slice A' s.qs.length c') ∧ w'.ownsRow V.heap.size 59 7 (.slice A' s.qs.length c') s.qs.length (RS.flat qaE s.qs) ∧ Below V.heap.size V w') := fun V hV => cloneAsk_any V (((hst.inn.keep hb1).keep hV).qs) (by have := hst.inn.ql; omega)
      have HCM : Hid (∀ V, Below V1.heap.size V1 V → Calls Tryd.prog 51 #[.slice s.sB s.ms.length s.sc] V fun e w' => ∃ A' c', e = .returned (.slice A' s.ms.length c') ∧ w'.ownsRow V.heap.size 46 5 (.slice A' s.ms.length c') s.ms.length (RS.flat msE s.ms) ∧ Below V.heap.size V w') := fun V hV => cloneMs_any V (((hst.inn.keep hb1).keep hV).ms) (by have := hst.inn.ml; omega)
      clear hsx hs hrb hin hst hb1 hbl
      refine RgX.tailFK 12 16 (fun i => ( 15 + i)) (fun ix_ => match ix_ with | 0 => .v (.slice (some ⟨g, 0, none⟩) n c1) | 1 => .v (.int .i64 (k : Int)) | 2 => .v (.slice (some ⟨g, 0, none⟩) n c1) | 3 => .v (.int .i64 (k : Int)) | 4 => .v (.pointer (some ⟨wo.heap.size, 8, none⟩)) | 5 => .v (.slice s.qB s.qs.length s.qc) | 6 => .asks V1.heap.size s.qs | 7 => .v (.pointer (some ⟨wo.heap.size, 10, none⟩)) | 8 => .v (.slice s.sB s.ms.length s.sc) | 9 => .msgs V1.heap.size s.ms | 10 => .v (.pointer (some ⟨g, k * 11, none⟩)) | 11 => .v (.pointer (some ⟨g, k * 11 + 8, none⟩)) | _ => .any) [2, 3] (fun ix_ => match ix_ with | 2 => .slice (some ⟨g, 0, none⟩) n c1 | 3 => .int .i64 (k : Int) | _ => undef) _ (fun a1_ w_ => ∃ (B21 B24 : Option Addr) (k21 k24 : Nat), a1_.tmps[24]? = some (.slice B24 s.ms.length k24) ∧ a1_.tmps[3]? = some (.slice (some ⟨g, 0, none⟩) n c1) ∧ a1_.tmps[4]? = some (.int .i64 (k : Int)) ∧ RS.Sl msE w_ B24 s.ms.length k24 s.ms ∧ (∀ b, B24 = some b → V1.heap.size ≤ b.block) ∧ RB w_ w.heap.size g n c1 (R1.set k { s with qB := B21, qc := k21 }) ∧ (∀ x ∈ R1.set k { s with qB := B21, qc := k21 }, StG w_ g x) ∧ Below w.heap.size w w_) (by kernel_rfl) rfl (by decide) rfl (by kernel_rfl) (by kernel_rfl) (by kernel_rfl) (by decide) (fun i hi => by show ( 15 + i) < 31; (repeat' split) <;> omega) (fun i j hi hj => by show ( 15 + i) = ( 15 + j) → i = j; (repeat' split) <;> omega) ?step ?sto ?flo ?hF ?fin
      case step =>
        intro L_ A_ w3 ix op_ hi hI ho hdep
        have hcase : ix = 0 ∨ ix = 1 ∨ ix = 2 ∨ ix = 3 ∨ ix = 4 ∨ ix = 5 ∨ ix = 6 ∨ ix = 7 ∨ ix = 8 ∨ ix = 9 ∨ ix = 10 ∨ ix = 11 := by omega
        have hh := hI.held
        clear hi
        rcases hcase with rfl | rfl | rfl | rfl | rfl | rfl | rfl | rfl | rfl | rfl | rfl | rfl
        · simp only [List.getElem?_toArray, List.getElem?_cons_zero, Option.some.injEq] at ho
          subst ho
          refine ⟨rfl, ?_⟩
          have e3 : A_.tmps[3]?.getD undef = .slice (some ⟨g, 0, none⟩) n c1 := by rw [hI.low 3 (by decide)]; rfl
          clear hI hdep
          exact .run rfl (.slice (some ⟨g, 0, none⟩) n c1) w3 (by simp [execOp, go_sem, Act.eval, e3]) (Below.refl _ _) rfl
        · simp only [List.getElem?_toArray, List.getElem?_cons_succ, List.getElem?_cons_zero, Option.some.injEq] at ho
          subst ho
          refine ⟨rfl, ?_⟩
          have e4 : A_.tmps[4]?.getD undef = .int .i64 (k : Int) := by rw [hI.low 4 (by decide)]; rfl
          clear hI hdep
          exact .run rfl (.int .i64 (k : Int)) w3 (by simp [execOp, go_sem, Act.eval, e4]) (Below.refl _ _) rfl
        · simp only [List.getElem?_toArray, List.getElem?_cons_succ, List.getElem?_cons_zero, Option.some.injEq] at ho
          subst ho
          refine ⟨rfl, ?_⟩
          have e3 : A_.tmps[3]?.getD undef = .slice (some ⟨g, 0, none⟩) n c1 := by rw [hI.low 3 (by decide)]; rfl
          clear hI hdep
          exact .run rfl (.slice (some ⟨g, 0, none⟩) n c1) w3 (by simp [execOp, go_sem, Act.eval, e3]) (Below.refl _ _) rfl
        · simp only [List.getElem?_toArray, List.getElem?_cons_succ, List.getElem?_cons_zero, Option.some.injEq] at ho
          subst ho
          refine ⟨rfl, ?_⟩
          have e4 : A_.tmps[4]?.getD undef = .int .i64 (k : Int) := by rw [hI.low 4 (by decide)]; rfl
          clear hI hdep
          exact .run rfl (.int .i64 (k : Int)) w3 (by simp [execOp, go_sem, Act.eval, e4]) (Below.refl _ _) rfl
        · simp only [List.getElem?_toArray, List.getElem?_cons_succ, List.getElem?_cons_zero, Option.some.injEq] at ho
          subst ho
          refine ⟨rfl, ?_⟩
          have e5 : A_.tmps[5]?.getD undef = .pointer (some ⟨wo.heap.size, 0, none⟩) := by rw [hI.low 5 (by decide)]; rfl
          clear hI hdep
          exact .run rfl (.pointer (some ⟨wo.heap.size, 8, none⟩)) w3 (by simp [execOp, go_sem, Act.eval, e5]) (Below.refl _ _) rfl
        · simp only [List.getElem?_toArray, List.getElem?_cons_succ, List.getElem?_cons_zero, Option.some.injEq] at ho
          subst ho
          refine ⟨rfl, ?_⟩
          have e19 : A_.tmps[19]?.getD undef = .pointer (some ⟨wo.heap.size, 8, none⟩) := getD_of (hI.val_ (i := 4) rfl rfl (by decide) (hdep ⟨4, .data⟩ (by simp) rfl))
          clear hI hdep
          obtain ⟨d0, d1, d2, d3, d4, d5, d6, d7, d8, d9, d10⟩ := (HSX.out.keep HSX.out.lt hh).cells
          exact .run rfl (.slice s.qB s.qs.length s.qc) w3 (by simp [execOp, go_sem, Act.eval, *]) (Below.refl _ _) rfl
        · simp only [List.getElem?_toArray, List.getElem?_cons_succ, List.getElem?_cons_zero, Option.some.injEq] at ho
          subst ho
          refine ⟨rfl, ?_⟩
          have e20 : A_.tmps[20]?.getD undef = .slice s.qB s.qs.length s.qc := getD_of (hI.val_ (i := 5) rfl rfl (by decide) (hdep ⟨5, .data⟩ (by simp) rfl))
          clear hI hdep
          exact .call rfl 50 #[.slice s.qB s.qs.length s.qc] (by simp [go_sem, Act.eval, e20]) (RgX.Sp.asks_calls hh.size (HCA.out w3 hh))
        · simp only [List.getElem?_toArray, List.getElem?_cons_succ, List.getElem?_cons_zero, Option.some.injEq] at ho
          subst ho
          refine ⟨rfl, ?_⟩
          have e5 : A_.tmps[5]?.getD undef = .pointer (some ⟨wo.heap.size, 0, none⟩) := by rw [hI.low 5 (by decide)]; rfl
          clear hI hdep
          exact .run rfl (.pointer (some ⟨wo.heap.size, 10, none⟩)) w3 (by simp [execOp, go_sem, Act.eval, e5]) (Below.refl _ _) rfl
        · simp only [List.getElem?_toArray, List.getElem?_cons_succ, List.getElem?_cons_zero, Option.some.injEq] at ho
          subst ho
          refine ⟨rfl, ?_⟩
          have e22 : A_.tmps[22]?.getD undef = .pointer (some ⟨wo.heap.size, 10, none⟩) := getD_of (hI.val_ (i := 7) rfl rfl (by decide) (hdep ⟨7, .data⟩ (by simp) rfl))
          clear hI hdep
          obtain ⟨d0, d1, d2, d3, d4, d5, d6, d7, d8, d9, d10⟩ := (HSX.out.keep HSX.out.lt hh).cells
          exact .run rfl (.slice s.sB s.ms.length s.sc) w3 (by simp [execOp, go_sem, Act.eval, *]) (Below.refl _ _) rfl
        · simp only [List.getElem?_toArray, List.getElem?_cons_succ, List.getElem?_cons_zero, Option.some.injEq] at ho
          subst ho
          refine ⟨rfl, ?_⟩
          have e23 : A_.tmps[23]?.getD undef = .slice s.sB s.ms.length s.sc := getD_of (hI.val_ (i := 8) rfl rfl (by decide) (hdep ⟨8, .data⟩ (by simp) rfl))
          clear hI hdep
          exact .call rfl 51 #[.slice s.sB s.ms.length s.sc] (by simp [go_sem, Act.eval, e23]) (RgX.Sp.msgs_calls hh.size (HCM.out w3 hh))
        · simp only [List.getElem?_toArray, List.getElem?_cons_succ, List.getElem?_cons_zero, Option.some.injEq] at ho
          subst ho
          refine ⟨rfl, ?_⟩
          have e15 : A_.tmps[15]?.getD undef = .slice (some ⟨g, 0, none⟩) n c1 := getD_of (hI.val_ (i := 0) rfl rfl (by decide) (hdep ⟨0, .data⟩ (by simp) rfl))
          have e16 : A_.tmps[16]?.getD undef = .int .i64 (k : Int) := getD_of (hI.val_ (i := 1) rfl rfl (by decide) (hdep ⟨1, .data⟩ (by simp) rfl))
          clear hI hdep
          exact .run rfl (.pointer (some ⟨g, k * 11, none⟩)) w3 (by simp [execOp, go_sem, Act.eval, e15, e16]; omega) (Below.refl _ _) rfl
        · simp only [List.getElem?_toArray, List.getElem?_cons_succ, List.getElem?_cons_zero, Option.some.injEq] at ho
          subst ho
          refine ⟨rfl, ?_⟩
          have e25 : A_.tmps[25]?.getD undef = .pointer (some ⟨g, k * 11, none⟩) := getD_of (hI.val_ (i := 10) rfl rfl (by decide) (hdep ⟨10, .data⟩ (by simp) rfl))
          clear hI hdep
          exact .run rfl (.pointer (some ⟨g, k * 11 + 8, none⟩)) w3 (by simp [execOp, go_sem, Act.eval, e25]) (Below.refl _ _) rfl
      case sto =>
        intro A_ w3 hs hlow hh hok
        obtain ⟨_, q21, B21, k21, rfl, h21, l21⟩ := hok 6 21 _ (by decide) (by decide) rfl rfl
        obtain ⟨_, q24, B24, k24, rfl, h24, l24⟩ := hok 9 24 _ (by decide) (by decide) rfl rfl
        have q26 := RgX.val_at (hok 11 26 _ (by decide) (by decide) rfl rfl)
        have q3 : A_.tmps[3]? = some (.slice (some ⟨g, 0, none⟩) n c1) := (hlow 3 (by decide)).trans rfl
        have q4 : A_.tmps[4]? = some (.int .i64 (k : Int)) := (hlow 4 (by decide)).trans rfl
        have e26 := getD_of q26
        have e21 := getD_of q21
        have hr := HRB.out.keep hh
        have hf := hr.free (k * 11 + 8)
        obtain ⟨d0, d1, d2, d3, d4, d5, d6, d7, d8, d9, d10⟩ := hr.at_ HS.out
        refine ⟨rfl, rfl, w3.setCell ⟨g, k * 11 + 8, none⟩ (.slice B21 s.qs.length k21), by simp [execOp, go_sem, Act.eval, e26, e21, d8, hf], ?_⟩
        have ho := set_other_blk w3 g (k * 11 + 8) (.slice B21 s.qs.length k21)
        have hz : w3.heap.size ≤ (w3.setCell ⟨g, k * 11 + 8, none⟩ (.slice B21 s.qs.length k21)).heap.size := by simp [World.setCell]
        have hgl := HRB.out.lt
        have hst := (HIN.out s (List.mem_of_getElem? HS.out)).keep hh
        have h21' : ∀ b, B21 = some b → b.block ≠ g := fun b e => by have := l21 b e; omega
        have h24' : ∀ b, B24 = some b → b.block ≠ g := fun b e => by have := l24 b e; omega
        exact ⟨B21, B24, k21, k24, q24, q3, q4, Sl_ne h24 h24' hz ho, l24, hr.set (o := 8) (s' := { s with qB := B21, qc := k21 }) HS.out (by omega) rfl (fun p hp => by
          match p, hp with
          | 0, _ => rfl
          | 1, _ => rfl
          | 2, _ => rfl
          | 3, _ => rfl
          | 4, _ => rfl
          | 5, _ => rfl
          | 6, _ => rfl
          | 7, _ => rfl
          | 9, _ => rfl
          | 10, _ => rfl
          | q + 11, _ => rfl), all_set (fun x hx => ((HIN.out x hx).keep hh).ne hz ho) ⟨⟨Sl_ne h21 h21' hz ho, (hst.ne hz ho).inn.ms, hst.inn.ql, hst.inn.ml⟩, h21', hst.s⟩, (HBL.out.trans (hh.mono HBL.out.size)).setCell (p := ⟨g, k * 11 + 8, none⟩) HRB.out.lo _⟩
      case flo =>
        intro i_ o_ A_ a1_ w3 hi ho hG hag hdl
        simp only [List.mem_cons, List.not_mem_nil, or_false] at hi
        rcases hi with rfl | rfl
        · simp only [List.getElem?_toArray, List.getElem?_cons_succ, List.getElem?_cons_zero, Option.some.injEq] at ho
          subst ho
          obtain ⟨B21, B24, k21, k24, k1, k3, k4, _⟩ := hG
          have e1 : A_.tmps[3]?.getD undef = .slice (some ⟨g, 0, none⟩) n c1 := getD_of ((hag 3 (by decide)).trans k3)
          exact ⟨rfl, rfl, by simp [execOp, go_sem, Act.eval, e1]⟩
        · simp only [List.getElem?_toArray, List.getElem?_cons_succ, List.getElem?_cons_zero, Option.some.injEq] at ho
          subst ho
          obtain ⟨B21, B24, k21, k24, k1, k3, k4, _⟩ := hG
          have e1 : A_.tmps[4]?.getD undef = .int .i64 (k : Int) := getD_of ((hag 4 (by decide)).trans k4)
          exact ⟨rfl, rfl, by simp [execOp, go_sem, Act.eval, e1]⟩
      case hF =>
        intro i_ hi w_ y_ h_
        simp only [List.mem_cons, List.not_mem_nil, or_false] at hi
        rcases hi with rfl | rfl
        · exact h_
        · exact h_
      case fin =>
      intro A_ a1_ w3 hs hd hlow hG hag hfl hex
      obtain ⟨B21, B24, k21, k24, k1_, k3_, k4_, hms, lms, hrb2, hin2, hbl2⟩ := hG
      obtain ⟨z15, hz15⟩ := hex 0 15 (by decide) rfl
      obtain ⟨z16, hz16⟩ := hex 1 16 (by decide) rfl
      obtain ⟨z19, hz19⟩ := hex 4 19 (by decide) rfl
      obtain ⟨z20, hz20⟩ := hex 5 20 (by decide) rfl
      obtain ⟨z21, hz21⟩ := hex 6 21 (by decide) rfl
      obtain ⟨z22, hz22⟩ := hex 7 22 (by decide) rfl
      obtain ⟨z23, hz23⟩ := hex 8 23 (by decide) rfl
      obtain ⟨z25, hz25⟩ := hex 10 25 (by decide) rfl
      obtain ⟨z26, hz26⟩ := hex 11 26 (by decide) rfl
      obtain rfl : A_ = ⟨#[.slice A n c, undef, .slice none 0 0, .slice (some ⟨g, 0, none⟩) n c1, .int .i64 (k : Int), .pointer (some ⟨wo.heap.size, 0, none⟩), .slice A n c, .slice (some ⟨g, 0, none⟩) n c1, .slice (some ⟨g, 0, none⟩) n c1, .int .i64 (n : Int), .int .i64 (k : Int), .bool true, .int .i64 (k : Int), .pointer (some { block := g, off := k * 11 }), .agg #[.int .i64 s.ev.k, .int .i64 s.ev.n, .int .i64 s.ev.a, .int .i64 s.ev.m.c, .int .i64 s.ev.m.h, .int .i64 s.ev.m.t, .int .i64 s.ev.m.i, .int .i64 s.ev.m.p, .slice s.qB s.qs.length s.qc, .bool s.ob, .slice s.sB s.ms.length s.sc], z15, z16, .slice (some ⟨g, 0, none⟩) n c1, .int .i64 (k : Int), z19, z20, z21, z22, z23, .slice B24 s.ms.length k24, z25, z26, u27, u28, u29, undef], []⟩ := act_ext hd hs (fun j hj => match j, hj with | 0, _ => (hlow 0 (by decide)).trans rfl | 1, _ => (hlow 1 (by decide)).trans rfl | 2, _ => (hlow 2 (by decide)).trans rfl | 3, _ => (hlow 3 (by decide)).trans rfl | 4, _ => (hlow 4 (by decide)).trans rfl | 5, _ => (hlow 5 (by decide)).trans rfl | 6, _ => (hlow 6 (by decide)).trans rfl | 7, _ => (hlow 7 (by decide)).trans rfl | 8, _ => (hlow 8 (by decide)).trans rfl | 9, _ => (hlow 9 (by decide)).trans rfl | 10, _ => (hlow 10 (by decide)).trans rfl | 11, _ => (hlow 11 (by decide)).trans rfl | 12, _ => (hlow 12 (by decide)).trans rfl | 13, _ => (hlow 13 (by decide)).trans rfl | 14, _ => (hlow 14 (by decide)).trans rfl | 15, _ => hz15 | 16, _ => hz16 | 17, _ => hfl 2 (by decide) | 18, _ => hfl 3 (by decide) | 19, _ => hz19 | 20, _ => hz20 | 21, _ => hz21 | 22, _ => hz22 | 23, _ => hz23 | 24, _ => (hag 24 (by decide)).trans k1_ | 25, _ => hz25 | 26, _ => hz26 | 27, _ => (hlow 27 (by decide)).trans rfl | 28, _ => (hlow 28 (by decide)).trans rfl | 29, _ => (hlow 29 (by decide)).trans rfl | 30, _ => (hlow 30 (by decide)).trans rfl | n + 31, h => absurd h (by show ¬ n + 31 < 31; omega))
      clear hs hd hlow hag hfl hex hz15 hz16 hz19 hz20 hz21 hz22 hz23 hz25 hz26
      have hgl := HRB.out.lt
      have hs1 : (R1.set k { s with qB := B21, qc := k21 })[k]? = some { s with qB := B21, qc := k21 } := List.getElem?_set_self (List.getElem?_eq_some_iff.1 HS.out).1
      have hcr := core_set (s' := { s with qB := B21, qc := k21 }) HS.out rfl
      obtain ⟨d0, d1, d2, d3, d4, d5, d6, d7, d8, d9, d10⟩ := hrb2.at_ hs1
      have hf := hrb2.free (k * 11 + 10)
      have hrb3 := hrb2.set (o := 10) (s' := { s with qB := B21, qc := k21, sB := B24, sc := k24 }) hs1 (by omega) rfl (fun p hp => by
        match p, hp with
        | 0, _ => rfl
        | 1, _ => rfl
        | 2, _ => rfl
        | 3, _ => rfl
        | 4, _ => rfl
        | 5, _ => rfl
        | 6, _ => rfl
        | 7, _ => rfl
        | 8, _ => rfl
        | 9, _ => rfl
        | q + 11, _ => rfl)
      have hcr2 := core_set (s' := { s with qB := B21, qc := k21, sB := B24, sc := k24 }) hs1 rfl
      have ho := set_other_blk w3 g (k * 11 + 10) (.slice B24 s.ms.length k24)
      have hz : w3.heap.size ≤ (w3.setCell ⟨g, k * 11 + 10, none⟩ (.slice B24 s.ms.length k24)).heap.size := by simp [World.setCell]
      have h24' : ∀ b, B24 = some b → b.block ≠ g := fun b e => by
        have := lms b e
        have := HRB.out.lt
        omega
      have hst := hin2 _ (List.mem_of_getElem? hs1)
      have hin3 : ∀ x ∈ (R1.set k { s with qB := B21, qc := k21 }).set k { s with qB := B21, qc := k21, sB := B24, sc := k24 }, StG (w3.setCell ⟨g, k * 11 + 10, none⟩ (.slice B24 s.ms.length k24)) g x := all_set (fun x hx => (hin2 x hx).ne hz ho) ⟨⟨(hst.ne hz ho).inn.qs, Sl_ne hms h24' hz ho, hst.inn.ql, hst.inn.ml⟩, hst.q, h24'⟩
      have hbl3 : Below w.heap.size w (w3.setCell ⟨g, k * 11 + 10, none⟩ (.slice B24 s.ms.length k24)) := hbl2.setCell (p := ⟨g, k * 11 + 10, none⟩) HRB.out.lo _
      have HRB3 := Lib.hid hrb3
      have HIN3 := Lib.hid hin3
      have HCO3 := Lib.hid (hcr2.trans (hcr.trans hco.out))
      have HBL3 := Lib.hid hbl3
      clear hrb3 hin3 hcr hcr2 hbl3 ho hz h24' hst hms lms hrb2 hin2 hbl2 hs1 HRB HIN HBL HSX HCA HCM k1_ k3_ k4_ hgl
      dsimp only [List.drop]
      go_wp2_with fail
      go_roundw
      case rel => exact ⟨k + 1, _, by go_num, by omega, HRB3.out, HIN3.out, HCO3.out, HBL3.out⟩
      case measure => simp [intOf]; omega
    · obtain rfl : k = n := by omega
      go_wp2_with fail
      go_ret
      exact ⟨g, c1, R1, rfl, hrb.out, hin.out, hco.out, hbl.out⟩
end Go.Proofs.YtlomhoohmcnniaaDoor
