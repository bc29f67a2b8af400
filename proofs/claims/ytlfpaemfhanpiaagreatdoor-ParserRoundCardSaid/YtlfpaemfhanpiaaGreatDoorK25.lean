/-
  A parsing function on its way: its result's box, the parser, the trees that it holds. No function of the program.
  The parser's prefixed, not, unary. Conditions: the parser stands; the operands' functions parse.
  The parser's chain. Conditions: the parser stands; the operand's function parses; the operators lie in memory.
  The parser's expr, and, sum, product. Conditions: the parser stands; the operands' functions parse.
  The parser's comparison. Conditions: the parser stands; sum parses.
-/
import Derived.Test.YtlfpaemfhanpiaaGreatDoorK24
import Derived.Test.YtlfpaemfhanpiaaGreatDoorK2
import Derived.Test.YtlfpaemfhanpiaaGreatDoorK4
import Derived.Deep.RegionLaw
import Derived.LoopTactic

namespace Go.Proofs.YtlfpaemfhanpiaaGreatDoor
open Go Go.RowKit Go.Proofs
attribute [local go_sem] Oper.semAt_some field0 field1 field2 field3

/-- A call that began at V, whose result's box is the first new block, stands at w. -/
structure Fr (V w : World) (K : Pc) (r : List LX.Tok) (lv : Nat) : Prop where
  chg : Chg (· = K.g) V w
  pat : PAt w K r lv
  box : w.heap[V.heap.size]? = some (.cells nd0 33 (0, 0))
  g : K.g < V.heap.size
  tb : K.tb < V.heap.size
  mb : K.mb < V.heap.size
/-- New blocks behind the box, but one. -/
def Sx (V : World) (x : Nat) : Nat → Prop := fun c => V.heap.size < c ∧ c ≠ x
section
variable {V w w' : World} {K : Pc} {r r' : List LX.Tok} {lv lv' x : Nat} {t : TY.Nd} {v : Value}
theorem Fr.begin (h : PAt V K r lv) : Fr V (V.alloc (.cells nd0 33)) K r lv :=
  ⟨(Chg.refl _ _).alloc _, h.alloc _, World.alloc_heap_new V _, h.lt, h.ltb, h.ltm⟩
theorem Fr.lt (h : Fr V w K r lv) : V.heap.size < w.heap.size := heap_lt h.box
theorem Fr.step (h : Fr V w K r lv) (hC : Chg (· = K.g) w w') (hP : PAt w' K r' lv') : Fr V w' K r' lv' :=
  ⟨h.chg.trans hC (fun _ _ e => e), hP, (hC.block _ h.lt (by have := h.g; omega)).trans h.box, h.g, h.tb, h.mb⟩
theorem Fr.below (h : Fr V w K r lv) (hb : Below w.heap.size w w') : Fr V w' K r lv := h.step (chgB hb) (h.pat.keep hb)
theorem Fr.alloc (h : Fr V w K r lv) (o : Obj) : Fr V (w.alloc o) K r lv := h.below ((Below.refl _ _).alloc (Nat.le_refl _) o)
theorem Fr.drew (h : Fr V w K r lv) : Fr V w.drew K r lv := h.below ((Below.refl _ _).drew)
theorem Fr.cells (h : Fr V w K r lv) : w.cell? ⟨V.heap.size, 0, none⟩ = some (.int .i64 0) ∧ w.cell? ⟨V.heap.size, 1, none⟩ = some (.int .i64 0) ∧ w.cell? ⟨V.heap.size, 2, none⟩ = some (.string ⟨#[]⟩) ∧ w.cell? ⟨V.heap.size, 3, none⟩ = some (.slice none 0 0) ∧ w.frozen? ⟨V.heap.size, 0, none⟩ = false ∧ w.frozen? ⟨V.heap.size, 1, none⟩ = false ∧ w.frozen? ⟨V.heap.size, 2, none⟩ = false ∧ w.frozen? ⟨V.heap.size, 3, none⟩ = false := by
  obtain ⟨q0, q1, q2, q3, qf⟩ := tok_cells h.box
  exact ⟨q0, q1, q2, q3, qf 0, qf 1, qf 2, qf 3⟩
/-- The walk's inequalities. -/
theorem Fr.nums (h : Fr V w K r lv) : K.g < w.heap.size ∧ V.heap.size < w.heap.size ∧ (¬ V.heap.size = K.g) ∧ (¬ K.g = V.heap.size) := by
  have := h.lt
  have := h.g
  refine ⟨by omega, by omega, by omega, by omega⟩
theorem Nw.sx {B : Nat} (h : Nw B w t v) (hB : V.heap.size < B) (hx : x < B ∨ w.heap.size ≤ x) : Nf (Sx V x) w t v := h.nx.mono fun _ hl hc => ⟨Nat.lt_of_lt_of_le hB hc, by omega⟩
theorem Nf.step (h : Nf (Sx V x) w t v) (hC : Chg (· = K.g) w w') (hg : K.g < V.heap.size) : Nf (Sx V x) w' t v := h.keep (fun c hc hl => hC.block c hl (fun e => by have := hc.1; omega)) hC.size
theorem Nf.below (h : Nf (Sx V x) w t v) (hb : Below w.heap.size w w') : Nf (Sx V x) w' t v := h.keep (fun c _ hl => hb.block c hl) hb.size
theorem Fr.fin {U : World} {k n : Int} {s : ByteArray} {Kv : Value} (h : Fr V w K r lv) (hN : Nf (Sx V x) w t (ndv k n s Kv)) (os : List Obj)
    (hU : layn ((((w.setCell ⟨V.heap.size, 0, none⟩ (.int .i64 k)).setCell ⟨V.heap.size, 1, none⟩ (.int .i64 n)).setCell ⟨V.heap.size, 2, none⟩ (.string s)).setCell ⟨V.heap.size, 3, none⟩ Kv) os = U) :
    U.heap[V.heap.size]? = some (.cells #[.int .i64 k, .int .i64 n, .string s, Kv] 33 (0, 0)) ∧ PRes V K lv (.ok t r) (.returned (.agg #[.int .i64 k, .int .i64 n, .string s, Kv])) U :=
  pres_fin h.chg (Nat.le_refl _) h.pat h.box hN (fun e => Nat.lt_irrefl _ e.1) (fun _ hc => Nat.le_of_lt hc.1) h.g h.tb h.mb os hU
end
/-- The end, an object laid ahead of the stores. -/
theorem Fr.fin_new {V w U : World} {K : Pc} {r : List LX.Tok} {lv x : Nat} {t : TY.Nd} {k n : Int} {s : ByteArray} {Kv : Value} (X : Obj) (h : Fr V w K r lv) (hN : Nf (Sx V x) (w.alloc X) t (ndv k n s Kv))
    (hU : ((((w.setCell ⟨V.heap.size, 0, none⟩ (.int .i64 k)).setCell ⟨V.heap.size, 1, none⟩ (.int .i64 n)).setCell ⟨V.heap.size, 2, none⟩ (.string s)).setCell ⟨V.heap.size, 3, none⟩ Kv).alloc X = U) :
    U.heap[V.heap.size]? = some (.cells #[.int .i64 k, .int .i64 n, .string s, Kv] 33 (0, 0)) ∧ PRes V K lv (.ok t r) (.returned (.agg #[.int .i64 k, .int .i64 n, .string s, Kv])) U := by
  refine (h.alloc X).fin hN [] ?_
  rw [← hU]
  have hl := h.lt
  simp only [layn, List.foldl_nil]
  rw [World.setCell_alloc_past _ _ _ _ hl, World.setCell_alloc_past _ _ _ _ (by simpa [World.setCell] using hl), World.setCell_alloc_past _ _ _ _ (by simpa [World.setCell] using hl), World.setCell_alloc_past _ _ _ _ (by simpa [World.setCell] using hl)]
theorem PFn.at_ {F : FuncId} {args : Array Value} {K : Pc} {lv : Nat} {M : List LX.Tok → PS.PR TY.Nd} (h : PFn F args K lv M) {ts : List LX.Tok} {R : PS.PR TY.Nd} (hR : M ts = R) (hlv : lv ≤ 20) (hne : R ≠ .out) : ∀ W, PAt W K ts lv → Calls Tryz.prog F args W (PRes W K lv R) := fun W hP => by
  subst hR
  exact h W ts hlv hP hne
theorem ok_ne {t : TY.Nd} {r : List LX.Tok} : (PS.PR.ok t r) ≠ .out := fun h => nomatch h
theorem err_ne {p c : Nat} : (PS.PR.err p c : PS.PR TY.Nd) ≠ .out := fun h => nomatch h
theorem mkf (fn : Fn) (first cap : Array Value) (w : World) : (Instr.makeFunc fn first cap).run Tryz.prog w = .ok (.func fn first cap) w := rfl
set_option maxRecDepth 100000 in
set_option maxHeartbeats 4000000 in
theorem par_any (K : Pc) (lv : Nat) (M : List LX.Tok → PS.PR TY.Nd) (hF : PFn 77 #[.pointer (some ⟨K.g, 0, none⟩)] K (lv + 1) M) :
    PFn 169 #[.pointer (some ⟨K.g, 0, none⟩)] K lv (fun ts => ((PS.opn PS.yLP lv ts).bind fun _ u => M u).bind fun x r => (PS.must PS.yRP r).bind fun _ r => .ok x r) := by
  intro V ts hlv h hR
  have hD := deeper_any (enters_of Tryz.func77 (by kernel_rfl) rfl) K lv PS.yLP (by decide) M hF
  have F1 := Lib.hid (Fr.begin h)
  have hmf := mkf
  dsimp only at hR ⊢
  cases hm : (PS.opn PS.yLP lv ts).bind fun _ u => M u with
  | out => rw [hm] at hR; exact absurd rfl hR
  | err p c =>
    have HD := Lib.hid (hD.at_ hm hlv err_ne)
    clear h hF hR hm hD
    go_enter Tryz.func169, Tryz.ntmps169
    go_wp2_with (first
      | (go_at_call 102; refine (HD.out _ F1.out.pat).mono ?_; rintro e w2 ⟨hC, rfl⟩))
    exact ⟨rfl, F1.out.chg.trans hC (fun _ _ e => e), rfl⟩
  | ok n r =>
    rw [hm] at hR
    simp only [PS.PR.bind_ok] at hR ⊢
    have HD := Lib.hid (hD.at_ hm hlv ok_ne)
    clear hm h hF hD
    cases hq : PS.must PS.yRP r with
    | out => rw [hq] at hR; exact absurd rfl hR
    | err p c =>
      have HQ := Lib.hid hq
      clear hR hq
      go_enter Tryz.func169, Tryz.ntmps169
      go_wp2_with (first
        | (go_at_call 102; refine (HD.out _ F1.out.pat).mono ?_; clear HD; rintro e w2 ⟨hC, v, rfl, hv, hP⟩; obtain ⟨k2, n2, s2, A2, m2, c2, rfl⟩ := hv.shape; have F2 := Lib.hid (F1.out.step hC hP); clear hv hC hP)
        | (go_at_call 76; refine (must_any _ K r lv PS.yRP (by decide) (F2.out.alloc _).pat).mono ?_; rw [HQ.out]; rintro e w3 ⟨hC, rfl⟩))
      exact ⟨rfl, (F2.out.alloc _).chg.trans hC (fun _ _ e => e), rfl⟩
    | ok a r3 =>
      have HQ := Lib.hid hq
      clear hR hq
      go_enter Tryz.func169, Tryz.ntmps169
      go_wp2_with (first
        | (go_at_call 102; refine (HD.out _ F1.out.pat).mono ?_; clear HD; rintro e w2 ⟨hC, v, rfl, hv, hP⟩; obtain ⟨k2, n2, s2, A2, m2, c2, rfl⟩ := hv.shape; have F2 := Lib.hid (F1.out.step hC hP); have z2 := hC.size; have V2 := Lib.hid (hv.sx (x := w2.heap.size) F1.out.lt (.inr (Nat.le_refl _))); clear hv hC hP)
        | (go_at_call 76; refine (must_any _ K r lv PS.yRP (by decide) (F2.out.alloc _).pat).mono ?_; rw [HQ.out]; rintro e w3 ⟨hC, rfl, hP⟩; have F3 := Lib.hid ((F2.out.alloc _).step hC hP); have B3 := Lib.hid ((hC.block w2.heap.size (by rw [World.size_alloc]; omega) (by have := F2.out.nums.1; omega)).trans (World.alloc_heap_new w2 _)); have V3 := Lib.hid ((V2.out.below ((Below.refl _ _).alloc (Nat.le_refl _) _)).step hC F2.out.g); obtain ⟨q0, q1, q2, q3, r0, r1, r2, r3⟩ := F3.out.cells; obtain ⟨i1, i2, i3, i4⟩ := F3.out.nums; obtain ⟨b0, b1, b2, b3, _⟩ := tok_cells B3.out; clear hC hP))
      have f := F3.out.fin V3.out [] rfl
      refine bodyPost_ret (ret_N rfl _ rfl f.1) rfl f.2
end Go.Proofs.YtlfpaemfhanpiaaGreatDoor

namespace Go.Proofs.YtlfpaemfhanpiaaGreatDoor
open Go Go.RowKit Go.Proofs
attribute [local go_sem] Oper.semAt_some field0 field1 field2 field3

set_option maxRecDepth 100000 in
set_option maxHeartbeats 4000000 in
theorem prefixed_any {F1 F2 : FuncId} (eg1 : ∀ args w, (callFunc F1 args).run Tryz.prog w = .ok (.enter F1 args) w) (eg2 : ∀ args w, (callFunc F2 args).run Tryz.prog w = .ok (.enter F2 args) w) (K : Pc) (lv : Nat) (s : PS.Bs) (hs : s ≠ []) (hs2 : s.length ≤ 1000) (g : PS.Rec) (p q : Nat)
    (h1 : PFn F1 #[.pointer (some ⟨K.g, 0, none⟩)] K (lv + 1) (g (.ex p) (lv + 1))) (h2 : PFn F2 #[.pointer (some ⟨K.g, 0, none⟩)] K lv (g (.ex q) lv)) :
    PFn 147 #[.pointer (some ⟨K.g, 0, none⟩), .string (PS.bs s), .func (.func F1) #[.pointer (some ⟨K.g, 0, none⟩)] #[], .func (.func F2) #[.pointer (some ⟨K.g, 0, none⟩)] #[]] K lv (PS.pref s p q g lv) := by
  intro V ts hlv h hR
  have hD := deeper_any eg1 K lv s hs _ h1
  have F1 := Lib.hid (Fr.begin h)
  obtain ⟨t, u, rfl⟩ := h.good.ne
  have HS := Lib.hid (fun (W : World) (hW : PAt W K (t :: u) lv) => sees_any W K t u lv s hW)
  simp only [PS.pref] at hR ⊢
  by_cases e : t.text = s
  · have hb : (t.text == s) = true := by rw [beq_iff_eq]; exact e
    rw [hb] at HS
    rw [if_pos e] at hR ⊢
    unfold PS.deeper at hR ⊢
    cases hm : (PS.opn s lv (t :: u)).bind fun _ u => g (.ex p) (lv + 1) u with
    | out => rw [hm] at hR; exact absurd rfl hR
    | err p c =>
      have HD := Lib.hid (hD.at_ hm hlv err_ne)
      clear h h1 h2 hR hm hD e
      go_enter Tryz.func147, Tryz.ntmps147
      go_wp2_with (first
        | (go_at_call 56; refine (HS.out _ F1.out.pat).mono ?_; clear HS; rintro e w2 ⟨rfl, hb2⟩; have F2 := Lib.hid (F1.out.below hb2); clear hb2)
        | (go_at_call 102; refine (HD.out _ F2.out.pat).mono ?_; clear HD; rintro e w3 ⟨hC, rfl⟩))
      exact ⟨rfl, F2.out.chg.trans hC (fun _ _ e => e), rfl⟩
    | ok n r =>
      have HD := Lib.hid (hD.at_ hm hlv ok_ne)
      clear h h1 h2 hR hm hD e
      simp only [PS.PR.bind_ok]
      go_enter Tryz.func147, Tryz.ntmps147
      go_wp2_with (first
        | (go_at_call 56; refine (HS.out _ F1.out.pat).mono ?_; clear HS; rintro e w2 ⟨rfl, hb2⟩; have F2 := Lib.hid (F1.out.below hb2); clear hb2)
        | (go_at_call 102; refine (HD.out _ F2.out.pat).mono ?_; clear HD; rintro e w3 ⟨hC, v, rfl, hv, hP⟩; obtain ⟨k2, n2, s2, A2, m2, c2, rfl⟩ := hv.shape; have F3 := Lib.hid (F2.out.step hC hP); have V3 := Lib.hid (hv.sx (x := V.heap.size) F2.out.lt (.inl F2.out.lt)); obtain ⟨q0, q1, q2, q3, r0, r1, r2, r3⟩ := F3.out.cells; obtain ⟨i1, i2, i3, i4⟩ := F3.out.nums; clear hv hC hP))
      have hl := F3.out.lt
      have f := F3.out.fin_new (.cells #[.int .i64 k2, .int .i64 n2, .string s2, .slice A2 m2 c2] 33) (Nf.one (k := 17) (n := 0) (s := PS.bs s) (World.alloc_heap_new w3 _) ⟨hl, by omega⟩ (show s.toArray.size ≤ 1000 by simpa using hs2) (V3.out.below ((Below.refl _ _).alloc (Nat.le_refl _) _))) rfl
      refine bodyPost_ret (ret_N rfl _ rfl f.1) rfl f.2
  · have hb : (t.text == s) = false := by rw [beq_eq_false_iff_ne]; exact e
    rw [hb] at HS
    rw [if_neg e] at hR ⊢
    cases hm : g (.ex q) lv (t :: u) with
    | out => rw [hm] at hR; exact absurd rfl hR
    | err p c =>
      have HD := Lib.hid (h2.at_ hm hlv err_ne)
      clear h h1 h2 hR hm hD e
      go_enter Tryz.func147, Tryz.ntmps147
      go_wp2_with (first
        | (go_at_call 56; refine (HS.out _ F1.out.pat).mono ?_; clear HS; rintro e w2 ⟨rfl, hb2⟩; have F2 := Lib.hid (F1.out.below hb2); clear hb2)
        | (refine (HD.out _ F2.out.pat).mono ?_; clear HD; rintro e w3 ⟨hC, rfl⟩))
      exact ⟨rfl, F2.out.chg.trans hC (fun _ _ e => e), rfl⟩
    | ok n r =>
      have HD := Lib.hid (h2.at_ hm hlv ok_ne)
      clear h h1 h2 hR hm hD e
      go_enter Tryz.func147, Tryz.ntmps147
      go_wp2_with (first
        | (go_at_call 56; refine (HS.out _ F1.out.pat).mono ?_; clear HS; rintro e w2 ⟨rfl, hb2⟩; have F2 := Lib.hid (F1.out.below hb2); clear hb2)
        | (refine (HD.out _ F2.out.pat).mono ?_; clear HD; rintro e w3 ⟨hC, v, rfl, hv, hP⟩; obtain ⟨k2, n2, s2, A2, m2, c2, rfl⟩ := hv.shape; have F3 := Lib.hid (F2.out.step hC hP); have V3 := Lib.hid (hv.sx (x := V.heap.size) F2.out.lt (.inl F2.out.lt)); obtain ⟨q0, q1, q2, q3, r0, r1, r2, r3⟩ := F3.out.cells; obtain ⟨i1, i2, i3, i4⟩ := F3.out.nums; clear hv hC hP))
      have f := F3.out.fin V3.out [] rfl
      refine bodyPost_ret (ret_N rfl _ rfl f.1) rfl f.2
set_option maxRecDepth 100000 in
set_option maxHeartbeats 4000000 in
theorem not_any (K : Pc) (lv : Nat) (g : PS.Rec) (h1 : PFn 127 #[.pointer (some ⟨K.g, 0, none⟩)] K (lv + 1) (g (.ex 3) (lv + 1))) (h2 : PFn 148 #[.pointer (some ⟨K.g, 0, none⟩)] K lv (g (.ex 4) lv)) :
    PFn 127 #[.pointer (some ⟨K.g, 0, none⟩)] K lv (PS.step g (.ex 3) lv) := by
  intro V ts hlv h hR
  have hD := prefixed_any (enters_of Tryz.func127 (by kernel_rfl) rfl) (enters_of Tryz.func148 (by kernel_rfl) rfl) K lv PS.yNot (by decide) (by decide) g 3 4 h1 h2
  have F1 := Lib.hid (Fr.begin h)
  have hmf := mkf
  have hst : PS.step g (.ex 3) lv ts = PS.pref PS.yNot 3 4 g lv ts := rfl
  rw [hst] at hR ⊢
  cases hm : PS.pref PS.yNot 3 4 g lv ts with
  | out => exact absurd hm hR
  | err p c =>
    have HD := Lib.hid (hD.at_ hm hlv err_ne)
    clear h h1 h2 hR hm hD hst
    go_enter Tryz.func127, Tryz.ntmps127
    go_wp2_with (first
      | (go_at_call 147; refine (HD.out _ F1.out.pat).mono ?_; clear HD; rintro e w3 ⟨hC, rfl⟩))
    exact ⟨rfl, F1.out.chg.trans hC (fun _ _ e => e), rfl⟩
  | ok n r =>
    have HD := Lib.hid (hD.at_ hm hlv ok_ne)
    clear h h1 h2 hR hm hD hst
    go_enter Tryz.func127, Tryz.ntmps127
    go_wp2_with (first
      | (go_at_call 147; refine (HD.out _ F1.out.pat).mono ?_; clear HD; rintro e w3 ⟨hC, v, rfl, hv, hP⟩; obtain ⟨k2, n2, s2, A2, m2, c2, rfl⟩ := hv.shape; have F3 := Lib.hid (F1.out.step hC hP); have V3 := Lib.hid (hv.sx (x := V.heap.size) F1.out.lt (.inl F1.out.lt)); obtain ⟨q0, q1, q2, q3, r0, r1, r2, r3⟩ := F3.out.cells; obtain ⟨i1, i2, i3, i4⟩ := F3.out.nums; clear hv hC hP))
    have f := F3.out.fin V3.out [] rfl
    refine bodyPost_ret (ret_N rfl _ rfl f.1) rfl f.2
set_option maxRecDepth 100000 in
set_option maxHeartbeats 4000000 in
theorem unary_any (K : Pc) (lv : Nat) (g : PS.Rec) (h1 : PFn 167 #[.pointer (some ⟨K.g, 0, none⟩)] K (lv + 1) (g (.ex 7) (lv + 1))) (h2 : PFn 168 #[.pointer (some ⟨K.g, 0, none⟩)] K lv (g (.ex 8) lv)) :
    PFn 167 #[.pointer (some ⟨K.g, 0, none⟩)] K lv (PS.step g (.ex 7) lv) := by
  intro V ts hlv h hR
  have hD := prefixed_any (enters_of Tryz.func167 (by kernel_rfl) rfl) (enters_of Tryz.func168 (by kernel_rfl) rfl) K lv PS.yMinus (by decide) (by decide) g 7 8 h1 h2
  have F1 := Lib.hid (Fr.begin h)
  have hmf := mkf
  have hst : PS.step g (.ex 7) lv ts = PS.pref PS.yMinus 7 8 g lv ts := rfl
  rw [hst] at hR ⊢
  cases hm : PS.pref PS.yMinus 7 8 g lv ts with
  | out => exact absurd hm hR
  | err p c =>
    have HD := Lib.hid (hD.at_ hm hlv err_ne)
    clear h h1 h2 hR hm hD hst
    go_enter Tryz.func167, Tryz.ntmps167
    go_wp2_with (first
      | (go_at_call 147; refine (HD.out _ F1.out.pat).mono ?_; clear HD; rintro e w3 ⟨hC, rfl⟩))
    exact ⟨rfl, F1.out.chg.trans hC (fun _ _ e => e), rfl⟩
  | ok n r =>
    have HD := Lib.hid (hD.at_ hm hlv ok_ne)
    clear h h1 h2 hR hm hD hst
    go_enter Tryz.func167, Tryz.ntmps167
    go_wp2_with (first
      | (go_at_call 147; refine (HD.out _ F1.out.pat).mono ?_; clear HD; rintro e w3 ⟨hC, v, rfl, hv, hP⟩; obtain ⟨k2, n2, s2, A2, m2, c2, rfl⟩ := hv.shape; have F3 := Lib.hid (F1.out.step hC hP); have V3 := Lib.hid (hv.sx (x := V.heap.size) F1.out.lt (.inl F1.out.lt)); obtain ⟨q0, q1, q2, q3, r0, r1, r2, r3⟩ := F3.out.cells; obtain ⟨i1, i2, i3, i4⟩ := F3.out.nums; clear hv hC hP))
    have f := F3.out.fin V3.out [] rfl
    refine bodyPost_ret (ret_N rfl _ rfl f.1) rfl f.2
end Go.Proofs.YtlfpaemfhanpiaaGreatDoor

namespace Go.Proofs.YtlfpaemfhanpiaaGreatDoor
open Go Go.RowKit Go.Proofs
attribute [local go_sem] Oper.semAt_some field0 field1 field2 field3

/-- How many tokens are left. -/
def restLen (W : World) (g : Nat) : Nat := match W.cell? ⟨g, 0, none⟩ with
  | some (.slice _ n _) => n
  | _ => 0
theorem PAt.rest {W : World} {K : Pc} {ts : List LX.Tok} {lv : Nat} (h : PAt W K ts lv) : restLen W K.g = ts.length := by
  obtain ⟨off, c, h1, _⟩ := h
  unfold restLen
  rw [cell_of_row W _ 0 _ _ (0, 0) h1]
  rfl
theorem opsOf_ne {p : Nat} {s : PS.Bs} (h : s ∈ PS.opsOf p) : s ≠ [] ∧ s.length ≤ 1000 := by
  unfold PS.opsOf at h
  repeat' split at h
  all_goals simp only [List.mem_cons, List.not_mem_nil, or_false] at h
  all_goals rcases h with rfl | rfl
  all_goals exact ⟨by decide, by decide⟩
theorem opsOf_len (p : Nat) : (PS.opsOf p).length ≤ 2 := by
  unfold PS.opsOf
  repeat' split
  all_goals decide
/-- The store of a tree into a box of the call's own. -/
theorem Fr.set {V w U : World} {K : Pc} {r : List LX.Tok} {lv b : Nat} {a0 a1 a2 a3 c0 c1 c2 c3 : Value} (h : Fr V w K r lv) (hb : w.heap[b]? = some (.cells #[a0, a1, a2, a3] 33 (0, 0))) (hV : V.heap.size < b) (hU : (((w.setCell ⟨b, 0, none⟩ c0).setCell ⟨b, 1, none⟩ c1).setCell ⟨b, 2, none⟩ c2).setCell ⟨b, 3, none⟩ c3 = U) :
    Fr V U K r lv ∧ U.heap[b]? = some (.cells #[c0, c1, c2, c3] 33 (0, 0)) ∧ (∀ t v, Nf (Sx V b) w t v → Nf (Sx V b) U t v) := by
  obtain ⟨e1, e2, e3, e4⟩ := nd_set hb _ _ _ _ hU
  have hg := h.g
  have ht := h.tb
  have hm := h.mb
  have hs := h.chg.size
  have hbl := heap_lt hb
  exact ⟨⟨h.chg.trans e4 (fun x hx e => absurd hx (by omega)), h.pat.set4 (by omega) (by omega) (by omega) (fun x hx _ => e2 x hx) (by omega), (e2 _ (by omega)).trans h.box, hg, ht, hm⟩, e1, fun t v hv => hv.keep (fun c hc _ => e2 c hc.2) (by omega)⟩
set_option maxRecDepth 100000 in
set_option maxHeartbeats 8000000 in
theorem chain_any {F : FuncId} (eg : ∀ args w, (callFunc F args).run Tryz.prog w = .ok (.enter F args) w) (K : Pc) (lv p f : Nat) (hOp : ∀ f', f' ≤ f → PFn F #[.pointer (some ⟨K.g, 0, none⟩)] K lv (PS.pe f' (.ex (p + 1)) lv)) (V : World) (ts : List LX.Tok) (hlv : lv ≤ 20) (h : PAt V K ts lv) (A : Option Addr) (c m0 : Nat) (hm0 : (PS.opsOf p).length = m0) (hA : ∀ W, Chg (· = K.g) V W → SRow W A (PS.opsOf p)) (R : PS.PR TY.Nd) (hE0 : ((PS.pe f (.ex (p + 1)) lv ts).bind fun l r => PS.pe f (.ch p l) lv r) = R) (hR : R ≠ .out) :
    Calls Tryz.prog 100 #[.pointer (some ⟨K.g, 0, none⟩), .func (.func F) #[.pointer (some ⟨K.g, 0, none⟩)] #[], .slice A m0 c] V (PRes V K lv R) := by
  have F1 := Lib.hid (Fr.begin h)
  have hm2 : m0 ≤ 2 := hm0 ▸ opsOf_len p
  have HC := Lib.hid (fun (W : World) (s : PS.Bs) (b : Bool) (hW : Chg (· = K.g) V W) (hb : decide (s ∈ PS.opsOf p) = b) => hb ▸ sContains_any W A (PS.opsOf p) m0 c s hm0 (by omega) (hA W hW))
  have HOP := Lib.hid hOp
  cases hm : PS.pe f (.ex (p + 1)) lv ts with
  | out => rw [hm] at hE0; exact absurd hE0.symm hR
  | err q d =>
    rw [hm] at hE0
    obtain rfl := hE0
    have HD := Lib.hid ((hOp f (Nat.le_refl _)).at_ hm hlv err_ne)
    clear h hR hm hOp hA
    go_enter Tryz.func100, Tryz.ntmps100
    go_wp2_with (first
      | (refine (HD.out _ F1.out.pat).mono ?_; clear HD; rintro e w3 ⟨hC, rfl⟩))
    exact ⟨rfl, F1.out.chg.trans hC (fun _ _ e => e), rfl⟩
  | ok l0 r0 =>
    rw [hm] at hE0
    have hE0 : PS.pe f (.ch p l0) lv r0 = R := hE0
    have HD := Lib.hid ((hOp f (Nat.le_refl _)).at_ hm hlv ok_ne)
    clear h hm hOp hA
    go_enter Tryz.func100, Tryz.ntmps100
    go_wp2_with (first
      | (refine (HD.out _ F1.out.pat).mono ?_; clear HD; rintro e w2 ⟨hC, v, rfl, hv, hP⟩; obtain ⟨k2, n2, s2, A2, m2, c2, rfl⟩ := hv.shape; have F2 := Lib.hid (F1.out.step hC hP); have V2 := Lib.hid (hv.sx (x := w2.heap.size) F1.out.lt (.inr (Nat.le_refl _))); clear hv hC hP))
    have hbx := F2.out.lt
    go_loopw [8] (fun _ W => ∃ (f' : Nat) (r : List LX.Tok) (l : TY.Nd) (k n : Int) (s : ByteArray) (A' : Option Addr) (m c' : Nat), f' ≤ f ∧ Hid (PS.pe f' (.ch p l) lv r = R) ∧ Hid (Fr V W K r lv) ∧ Hid (W.heap[w2.heap.size]? = some (.cells #[.int .i64 k, .int .i64 n, .string s, .slice A' m c'] 33 (0, 0))) ∧ Hid (Nf (Sx V w2.heap.size) W l (ndv k n s (.slice A' m c')))) (fun _ W => restLen W K.g)
    case atStart => exact ⟨f, r0, l0, k2, n2, s2, A2, m2, c2, Nat.le_refl _, hE0, F2.out.alloc _, World.alloc_heap_new w2 _, V2.out.below ((Below.refl _ _).alloc (Nat.le_refl _) _)⟩
    case round =>
      obtain ⟨f', r, l, k, n, s, A', m, c', hf, hE, hFr, hBx, hV⟩ := hrel
      obtain ⟨t, u, rfl⟩ := hFr.out.pat.good.ne
      cases f' with
      | zero => exact absurd hE.out.symm hR
      | succ f2 =>
        have hE : PS.chn p l (PS.pe f2) lv (t :: u) = R := hE.out
        have HN := Lib.hid (next_any wr K t u lv hFr.out.pat)
        have hbw := heap_lt hBx.out
        clear F1 F2 V2 hE0
        by_cases ht : t.text ∈ PS.opsOf p
        · have hgu := hFr.out.pat.good.tail (opsOf_ne ht).1
          have htl := (opsOf_ne ht).2
          have hd : decide (t.text ∈ PS.opsOf p) = true := decide_eq_true ht
          rw [PS.chn, if_pos ht] at hE
          cases hx : PS.pe f2 (.ex (p + 1)) lv u with
          | out => rw [hx] at hE; exact absurd hE.symm hR
          | err q d =>
            rw [hx] at hE
            have hE : PS.PR.err q d = R := hE
            obtain rfl := hE
            have HD := Lib.hid ((HOP.out f2 (by omega)).at_ hx hlv err_ne)
            clear hx ht hR
            go_wp2_with (first
              | (go_at_call 60; refine HN.out.mono ?_; clear HN; rintro e w3 ⟨rfl, hb3⟩; have F3 := Lib.hid (hFr.out.below hb3); have B3 := Lib.hid ((hb3.block _ hbw).trans hBx.out); clear hb3)
              | (go_at_call 105; refine (HC.out _ t.text true F3.out.chg hd).mono ?_; clear HC; rintro e w4 ⟨rfl, hw4⟩; have hw4 := hw4.symm; subst hw4)
              | (go_at_call 79; refine (take_any _ K t u lv F3.out.pat hgu).mono ?_; rintro e w5 ⟨rfl, hP5, hC5⟩; have B5 := Lib.hid ((hC5.block _ (heap_lt B3.out) (by have := F3.out.g; omega)).trans B3.out); have F5 := Lib.hid (F3.out.step hC5 hP5); obtain ⟨y0, y1, y2, y3, _⟩ := tok_cells B5.out; clear hC5 hP5))
            refine region_dies 6 19 99 3 (fun i => 19 + i) (fun i => match i with | 0 => .val (.string (PS.bs t.text)) | 1 => .val (.agg #[.int .i64 k, .int .i64 n, .string s, .slice A' m c']) | 2 => .val (.func (.func F) #[.pointer (some ⟨K.g, 0, none⟩)] #[]) | _ => .val undef) (by kernel_rfl) rfl (by decide) (by kernel_rfl) ?step ?dies
            case step =>
              intro listed a i hI hi hic hdep
              have hsl : ∀ i, i < 6 → 19 + i < 25 ∧ (19 ≤ 19 + i ∨ 19 + i = 99) := fun i hi => by omega
              have hij : ∀ i j : Nat, i < 6 → j < 6 → 19 + i = 19 + j → i = j := fun i j _ _ h => by omega
              have p8 : a.tmps[8]?.getD undef = .string (PS.bs t.text) := by rw [hI.low 8 (by decide) (by decide)]; rfl
              have p7 : a.tmps[7]?.getD undef = .pointer (some ⟨w2.heap.size, 0, none⟩) := by rw [hI.low 7 (by decide) (by decide)]; rfl
              have p1 : a.tmps[1]?.getD undef = .func (.func F) #[.pointer (some ⟨K.g, 0, none⟩)] #[] := by rw [hI.low 1 (by decide) (by decide)]; rfl
              have hcase : i = 0 ∨ i = 1 ∨ i = 2 ∨ i = 3 ∨ i = 4 ∨ i = 5 := by omega
              rcases hcase with rfl | rfl | rfl | rfl | rfl | rfl
              · exact st_same hsl hij hI (by decide) rfl rfl rfl (by simp [execOp, go_sem, Act.eval, p8]) rfl
              · exact st_same hsl hij hI (by decide) rfl rfl rfl (by simp [execOp, go_sem, Act.eval, p7, y0, y1, y2, y3]) rfl
              · exact st_same hsl hij hI (by decide) rfl rfl rfl (by simp [execOp, go_sem, Act.eval, p1]) rfl
              · exact absurd rfl hic
              · exact absurd rfl (hdep _ rfl ⟨3, .data⟩ (by simp) rfl).2
              · exact absurd rfl (hdep _ rfl ⟨3, .phase⟩ (by simp) rfl).2
            case dies =>
              intro listed a hI hdep
              have e21 : a.tmps[21]?.getD undef = .func (.func F) #[.pointer (some ⟨K.g, 0, none⟩)] #[] := hI.ok 2 (by decide) (hdep _ rfl ⟨2, .data⟩ (by simp) rfl)
              have hdf := hI.defers
              refine st_dies rfl rfl (f := F) (args := #[.pointer (some ⟨K.g, 0, none⟩)]) (by simp [execOp, go_sem, Act.eval, e21, eg]) ((HD.out _ F5.out.drew.pat).mono (fun e w' h => ⟨h.2, h.1⟩)) (fun w' hz => ?_)
              exact ⟨hdf, F5.out.drew.chg.trans hz (fun _ _ e => e), rfl⟩
          | ok x r' =>
            rw [hx] at hE
            have hE : PS.pe f2 (.ch p (PS.nBin t.text l x)) lv r' = R := hE
            have hlen := PS.pe_len hx
            have HD := Lib.hid ((HOP.out f2 (by omega)).at_ hx hlv ok_ne)
            have HE := Lib.hid hE
            have RW := Lib.hid hFr.out.pat.rest
            clear hx ht hE
            go_wp2_with (first
              | (go_at_call 60; refine HN.out.mono ?_; clear HN; rintro e w3 ⟨rfl, hb3⟩; have F3 := Lib.hid (hFr.out.below hb3); have B3 := Lib.hid ((hb3.block _ hbw).trans hBx.out); have V3 := Lib.hid (hV.out.below hb3); clear hb3)
              | (go_at_call 105; refine (HC.out _ t.text true F3.out.chg hd).mono ?_; clear HC; rintro e w4 ⟨rfl, hw4⟩; have hw4 := hw4.symm; subst hw4)
              | (go_at_call 79; refine (take_any _ K t u lv F3.out.pat hgu).mono ?_; rintro e w5 ⟨rfl, hP5, hC5⟩; have B5 := Lib.hid ((hC5.block _ (heap_lt B3.out) (by have := F3.out.g; omega)).trans B3.out); have F5 := Lib.hid (F3.out.step hC5 hP5); have V5 := Lib.hid (V3.out.step hC5 F3.out.g); obtain ⟨y0, y1, y2, y3, _⟩ := tok_cells B5.out; clear hC5 hP5))
            have hb5 := heap_lt B5.out
            go_region_law
              (first
                | (go_simp; refine (HD.out _ F5.out.drew.pat).mono ?_; rintro e w6 ⟨hC6, v6, rfl, hv6, hP6⟩
                   obtain ⟨k6, n6, s6, A6, m6, c6, rfl⟩ := hv6.shape
                   have F6 := Lib.hid (F5.out.drew.step hC6 hP6)
                   have B6 := Lib.hid ((hC6.block _ hb5 (by have := F5.out.g; omega)).trans B5.out)
                   have V6 := Lib.hid ((V5.out.below ((Below.refl _ _).drew)).step hC6 F5.out.g)
                   have X6 := Lib.hid (hv6.sx (x := w2.heap.size) F5.out.drew.lt (.inl hb5))
                   have z6 := tok_cells B6.out
                   obtain ⟨z0, z1, z2, z3, _⟩ := z6
                   clear hC6 hP6 hv6)
                | (go_simp; go_at_call 126; refine (binary_any _ _ _ _ _ _ _ _ _ _ _ _ _ _).mono ?_; rintro e w7 ⟨g7, rfl, hg7, hH7, hb7⟩
                   have F7 := Lib.hid (F6.out.below hb7)
                   have B7 := Lib.hid ((hb7.block _ (heap_lt B6.out)).trans B6.out)
                   have T7 := Lib.hid (Nf.two (k := 18) (n := 0) (s := PS.bs t.text) hH7 ⟨by have := F6.out.lt; omega, by have := heap_lt B6.out; omega⟩ (show t.text.toArray.size ≤ 1000 by simpa using htl) (V6.out.below hb7) (X6.out.below hb7))
                   obtain ⟨x0, x1, x2, x3, xf⟩ := tok_cells B7.out
                   have f0 := xf 0
                   have f1 := xf 1
                   have f2' := xf 2
                   have f3 := xf 3
                   clear hH7 hb7 xf))
            all_goals
              go_wp2_with fail
              obtain ⟨s1, s2, s3⟩ := F7.out.set B7.out hbx rfl
              refine ⟨⟨f2, r', _, _, _, _, _, _, _, by omega, HE.out, s1, s2, s3 _ _ T7.out⟩, ?_⟩
              rw [s1.pat.rest, RW.out, List.length_cons]
              omega
        · rw [PS.chn, if_neg ht] at hE
          obtain rfl := hE
          have hd : decide (t.text ∈ PS.opsOf p) = false := decide_eq_false ht
          clear ht hR
          go_wp2_with (first
            | (go_at_call 60; refine HN.out.mono ?_; clear HN; rintro e w3 ⟨rfl, hb3⟩; have F3 := Lib.hid (hFr.out.below hb3); have B3 := Lib.hid ((hb3.block _ hbw).trans hBx.out); have V3 := Lib.hid (hV.out.below hb3); clear hb3)
            | (go_at_call 105; refine (HC.out _ t.text false F3.out.chg hd).mono ?_; clear HC; rintro e w4 ⟨rfl, hw4⟩; have hw4 := hw4.symm; subst hw4; obtain ⟨q0, q1, q2, q3, r0, r1, r2, r3⟩ := F3.out.cells; obtain ⟨i1, i2, i3, i4⟩ := F3.out.nums; obtain ⟨b0, b1, b2, b3, _⟩ := tok_cells B3.out))
          have f := F3.out.fin V3.out [] rfl
          refine bodyPost_ret (ret_N rfl _ rfl f.1) rfl f.2
end Go.Proofs.YtlfpaemfhanpiaaGreatDoor

namespace Go.Proofs.YtlfpaemfhanpiaaGreatDoor
open Go Go.RowKit Go.Proofs
attribute [local go_sem] Oper.semAt_some field0 field1 field2 field3

set_option maxRecDepth 100000 in
set_option maxHeartbeats 4000000 in
theorem expr_any (K : Pc) (lv f : Nat) (hOp : ∀ f', f' ≤ f → PFn 101 #[.pointer (some ⟨K.g, 0, none⟩)] K lv (PS.pe f' (.ex 2) lv)) :
    PFn 77 #[.pointer (some ⟨K.g, 0, none⟩)] K lv (PS.step (PS.pe f) (.ex 1) lv) := by
  intro V ts hlv h hR
  have hmf := mkf
  have F1 := Lib.hid (Fr.begin h)
  have hg := h.lt
  have hE : ((PS.pe f (.ex (1 + 1)) lv ts).bind fun l r => PS.pe f (.ch 1 l) lv r) = PS.step (PS.pe f) (.ex 1) lv ts := rfl
  obtain ⟨R, hRR⟩ : ∃ R, PS.step (PS.pe f) (.ex 1) lv ts = R := ⟨_, rfl⟩
  rw [hRR] at hE hR ⊢
  have z1 : (V.alloc (.cells nd0 33)).heap.size = V.heap.size + 1 := World.size_alloc _ _
  obtain ⟨W2, hW2⟩ : ∃ W, (V.alloc (.cells nd0 33)).alloc (.cells #[.string ⟨#[124, 124]⟩] 9) = W := ⟨_, rfl⟩
  have F2 : Fr V W2 K ts lv := hW2 ▸ F1.out.alloc _
  have hb : ∀ W, Chg (· = K.g) W2 W → W.heap[V.heap.size + 1]? = some (.cells #[.string ⟨#[124, 124]⟩] 9 (0, 0)) := fun W hW => (hW.block _ (by rw [← hW2, World.size_alloc, z1]; omega) (by omega)).trans (by rw [← hW2, ← z1]; exact World.alloc_heap_new _ _)
  have HC := Lib.hid (chain_any (enters_of Tryz.func101 (by kernel_rfl) rfl) K lv 1 f hOp W2 ts hlv F2.pat (some ⟨V.heap.size + 1, 0, none⟩) 1 1 rfl (fun W hW => .inr ⟨_, 0, rfl, heap_lt (hb W hW), fun j s hj => by
      rw [Nat.zero_add]
      match j, hj with
        | 0, hj => injection hj with hj; subst hj; exact (cell_of_row W _ 0 _ _ (0, 0) (hb W hW))
        | j + 1, hj => exact absurd hj (by rw [List.getElem?_eq_none (show (PS.opsOf 1).length ≤ j + 1 from Nat.le_add_left 1 j)]; exact fun h => nomatch h)⟩) R hE hR)
  have HW := Lib.hid (show (V.alloc (.cells #[.int .i64 0, .int .i64 0, .string ⟨#[]⟩, .slice none 0 0] 33)).alloc (.cells #[.string ⟨#[124, 124]⟩] 9) = W2 from hW2)
  have FF := Lib.hid F2
  clear h hOp hE hRR hb hW2 F2 F1 z1
  cases R with
  | out => exact absurd rfl hR
  | err q d =>
    go_enter Tryz.func77, Tryz.ntmps77
    go_wp2_with (first
      | (rw [HW.out]; go_at_call 100; refine HC.out.mono ?_; clear HC; rintro e w3 ⟨hC, rfl⟩))
    exact ⟨rfl, FF.out.chg.trans hC (fun _ _ e => e), rfl⟩
  | ok n r =>
    go_enter Tryz.func77, Tryz.ntmps77
    go_wp2_with (first
      | (rw [HW.out]; go_at_call 100; refine HC.out.mono ?_; clear HC; rintro e w3 ⟨hC, v, rfl, hv, hP⟩; obtain ⟨k2, n2, s2, A2, m2, c2, rfl⟩ := hv.shape; have F3 := Lib.hid (FF.out.step hC hP); have V3 := Lib.hid (hv.sx (x := V.heap.size) FF.out.lt (.inl FF.out.lt)); obtain ⟨q0, q1, q2, q3, r0, r1, r2, r3⟩ := F3.out.cells; obtain ⟨i1, i2, i3, i4⟩ := F3.out.nums; clear hv hC hP))
    have f := F3.out.fin V3.out [] rfl
    refine bodyPost_ret (ret_N rfl _ rfl f.1) rfl f.2
set_option maxRecDepth 100000 in
set_option maxHeartbeats 4000000 in
theorem and_any (K : Pc) (lv f : Nat) (hOp : ∀ f', f' ≤ f → PFn 127 #[.pointer (some ⟨K.g, 0, none⟩)] K lv (PS.pe f' (.ex 3) lv)) :
    PFn 101 #[.pointer (some ⟨K.g, 0, none⟩)] K lv (PS.step (PS.pe f) (.ex 2) lv) := by
  intro V ts hlv h hR
  have hmf := mkf
  have F1 := Lib.hid (Fr.begin h)
  have hg := h.lt
  have hE : ((PS.pe f (.ex (2 + 1)) lv ts).bind fun l r => PS.pe f (.ch 2 l) lv r) = PS.step (PS.pe f) (.ex 2) lv ts := rfl
  obtain ⟨R, hRR⟩ : ∃ R, PS.step (PS.pe f) (.ex 2) lv ts = R := ⟨_, rfl⟩
  rw [hRR] at hE hR ⊢
  have z1 : (V.alloc (.cells nd0 33)).heap.size = V.heap.size + 1 := World.size_alloc _ _
  obtain ⟨W2, hW2⟩ : ∃ W, (V.alloc (.cells nd0 33)).alloc (.cells #[.string ⟨#[38, 38]⟩] 9) = W := ⟨_, rfl⟩
  have F2 : Fr V W2 K ts lv := hW2 ▸ F1.out.alloc _
  have hb : ∀ W, Chg (· = K.g) W2 W → W.heap[V.heap.size + 1]? = some (.cells #[.string ⟨#[38, 38]⟩] 9 (0, 0)) := fun W hW => (hW.block _ (by rw [← hW2, World.size_alloc, z1]; omega) (by omega)).trans (by rw [← hW2, ← z1]; exact World.alloc_heap_new _ _)
  have HC := Lib.hid (chain_any (enters_of Tryz.func127 (by kernel_rfl) rfl) K lv 2 f hOp W2 ts hlv F2.pat (some ⟨V.heap.size + 1, 0, none⟩) 1 1 rfl (fun W hW => .inr ⟨_, 0, rfl, heap_lt (hb W hW), fun j s hj => by
      rw [Nat.zero_add]
      match j, hj with
        | 0, hj => injection hj with hj; subst hj; exact (cell_of_row W _ 0 _ _ (0, 0) (hb W hW))
        | j + 1, hj => exact absurd hj (by rw [List.getElem?_eq_none (show (PS.opsOf 2).length ≤ j + 1 from Nat.le_add_left 1 j)]; exact fun h => nomatch h)⟩) R hE hR)
  have HW := Lib.hid (show (V.alloc (.cells #[.int .i64 0, .int .i64 0, .string ⟨#[]⟩, .slice none 0 0] 33)).alloc (.cells #[.string ⟨#[38, 38]⟩] 9) = W2 from hW2)
  have FF := Lib.hid F2
  clear h hOp hE hRR hb hW2 F2 F1 z1
  cases R with
  | out => exact absurd rfl hR
  | err q d =>
    go_enter Tryz.func101, Tryz.ntmps101
    go_wp2_with (first
      | (rw [HW.out]; go_at_call 100; refine HC.out.mono ?_; clear HC; rintro e w3 ⟨hC, rfl⟩))
    exact ⟨rfl, FF.out.chg.trans hC (fun _ _ e => e), rfl⟩
  | ok n r =>
    go_enter Tryz.func101, Tryz.ntmps101
    go_wp2_with (first
      | (rw [HW.out]; go_at_call 100; refine HC.out.mono ?_; clear HC; rintro e w3 ⟨hC, v, rfl, hv, hP⟩; obtain ⟨k2, n2, s2, A2, m2, c2, rfl⟩ := hv.shape; have F3 := Lib.hid (FF.out.step hC hP); have V3 := Lib.hid (hv.sx (x := V.heap.size) FF.out.lt (.inl FF.out.lt)); obtain ⟨q0, q1, q2, q3, r0, r1, r2, r3⟩ := F3.out.cells; obtain ⟨i1, i2, i3, i4⟩ := F3.out.nums; clear hv hC hP))
    have f := F3.out.fin V3.out [] rfl
    refine bodyPost_ret (ret_N rfl _ rfl f.1) rfl f.2
set_option maxRecDepth 100000 in
set_option maxHeartbeats 4000000 in
theorem sum_any (K : Pc) (lv f : Nat) (hOp : ∀ f', f' ≤ f → PFn 164 #[.pointer (some ⟨K.g, 0, none⟩)] K lv (PS.pe f' (.ex 6) lv)) :
    PFn 160 #[.pointer (some ⟨K.g, 0, none⟩)] K lv (PS.step (PS.pe f) (.ex 5) lv) := by
  intro V ts hlv h hR
  have hmf := mkf
  have F1 := Lib.hid (Fr.begin h)
  have hg := h.lt
  have hE : ((PS.pe f (.ex (5 + 1)) lv ts).bind fun l r => PS.pe f (.ch 5 l) lv r) = PS.step (PS.pe f) (.ex 5) lv ts := rfl
  obtain ⟨R, hRR⟩ : ∃ R, PS.step (PS.pe f) (.ex 5) lv ts = R := ⟨_, rfl⟩
  rw [hRR] at hE hR ⊢
  have z1 : (V.alloc (.cells nd0 33)).heap.size = V.heap.size + 1 := World.size_alloc _ _
  obtain ⟨W2, hW2⟩ : ∃ W, (V.alloc (.cells nd0 33)).alloc (.cells #[.string ⟨#[43]⟩, .string ⟨#[45]⟩] 9) = W := ⟨_, rfl⟩
  have F2 : Fr V W2 K ts lv := hW2 ▸ F1.out.alloc _
  have hb : ∀ W, Chg (· = K.g) W2 W → W.heap[V.heap.size + 1]? = some (.cells #[.string ⟨#[43]⟩, .string ⟨#[45]⟩] 9 (0, 0)) := fun W hW => (hW.block _ (by rw [← hW2, World.size_alloc, z1]; omega) (by omega)).trans (by rw [← hW2, ← z1]; exact World.alloc_heap_new _ _)
  have HC := Lib.hid (chain_any (enters_of Tryz.func164 (by kernel_rfl) rfl) K lv 5 f hOp W2 ts hlv F2.pat (some ⟨V.heap.size + 1, 0, none⟩) 2 2 rfl (fun W hW => .inr ⟨_, 0, rfl, heap_lt (hb W hW), fun j s hj => by
      rw [Nat.zero_add]
      match j, hj with
        | 0, hj => injection hj with hj; subst hj; exact (cell_of_row W _ 0 _ _ (0, 0) (hb W hW))
        | 1, hj => injection hj with hj; subst hj; exact (cell_of_row W _ 1 _ _ (0, 0) (hb W hW))
        | j + 2, hj => exact absurd hj (by rw [List.getElem?_eq_none (show (PS.opsOf 5).length ≤ j + 2 from Nat.le_add_left 2 j)]; exact fun h => nomatch h)⟩) R hE hR)
  have HW := Lib.hid (show (V.alloc (.cells #[.int .i64 0, .int .i64 0, .string ⟨#[]⟩, .slice none 0 0] 33)).alloc (.cells #[.string ⟨#[43]⟩, .string ⟨#[45]⟩] 9) = W2 from hW2)
  have FF := Lib.hid F2
  clear h hOp hE hRR hb hW2 F2 F1 z1
  cases R with
  | out => exact absurd rfl hR
  | err q d =>
    go_enter Tryz.func160, Tryz.ntmps160
    go_wp2_with (first
      | (rw [HW.out]; go_at_call 100; refine HC.out.mono ?_; clear HC; rintro e w3 ⟨hC, rfl⟩))
    exact ⟨rfl, FF.out.chg.trans hC (fun _ _ e => e), rfl⟩
  | ok n r =>
    go_enter Tryz.func160, Tryz.ntmps160
    go_wp2_with (first
      | (rw [HW.out]; go_at_call 100; refine HC.out.mono ?_; clear HC; rintro e w3 ⟨hC, v, rfl, hv, hP⟩; obtain ⟨k2, n2, s2, A2, m2, c2, rfl⟩ := hv.shape; have F3 := Lib.hid (FF.out.step hC hP); have V3 := Lib.hid (hv.sx (x := V.heap.size) FF.out.lt (.inl FF.out.lt)); obtain ⟨q0, q1, q2, q3, r0, r1, r2, r3⟩ := F3.out.cells; obtain ⟨i1, i2, i3, i4⟩ := F3.out.nums; clear hv hC hP))
    have f := F3.out.fin V3.out [] rfl
    refine bodyPost_ret (ret_N rfl _ rfl f.1) rfl f.2
set_option maxRecDepth 100000 in
set_option maxHeartbeats 4000000 in
theorem product_any (K : Pc) (lv f : Nat) (hOp : ∀ f', f' ≤ f → PFn 167 #[.pointer (some ⟨K.g, 0, none⟩)] K lv (PS.pe f' (.ex 7) lv)) :
    PFn 164 #[.pointer (some ⟨K.g, 0, none⟩)] K lv (PS.step (PS.pe f) (.ex 6) lv) := by
  intro V ts hlv h hR
  have hmf := mkf
  have F1 := Lib.hid (Fr.begin h)
  have hg := h.lt
  have hE : ((PS.pe f (.ex (6 + 1)) lv ts).bind fun l r => PS.pe f (.ch 6 l) lv r) = PS.step (PS.pe f) (.ex 6) lv ts := rfl
  obtain ⟨R, hRR⟩ : ∃ R, PS.step (PS.pe f) (.ex 6) lv ts = R := ⟨_, rfl⟩
  rw [hRR] at hE hR ⊢
  have z1 : (V.alloc (.cells nd0 33)).heap.size = V.heap.size + 1 := World.size_alloc _ _
  obtain ⟨W2, hW2⟩ : ∃ W, (V.alloc (.cells nd0 33)).alloc (.cells #[.string ⟨#[42]⟩, .string ⟨#[47]⟩] 9) = W := ⟨_, rfl⟩
  have F2 : Fr V W2 K ts lv := hW2 ▸ F1.out.alloc _
  have hb : ∀ W, Chg (· = K.g) W2 W → W.heap[V.heap.size + 1]? = some (.cells #[.string ⟨#[42]⟩, .string ⟨#[47]⟩] 9 (0, 0)) := fun W hW => (hW.block _ (by rw [← hW2, World.size_alloc, z1]; omega) (by omega)).trans (by rw [← hW2, ← z1]; exact World.alloc_heap_new _ _)
  have HC := Lib.hid (chain_any (enters_of Tryz.func167 (by kernel_rfl) rfl) K lv 6 f hOp W2 ts hlv F2.pat (some ⟨V.heap.size + 1, 0, none⟩) 2 2 rfl (fun W hW => .inr ⟨_, 0, rfl, heap_lt (hb W hW), fun j s hj => by
      rw [Nat.zero_add]
      match j, hj with
        | 0, hj => injection hj with hj; subst hj; exact (cell_of_row W _ 0 _ _ (0, 0) (hb W hW))
        | 1, hj => injection hj with hj; subst hj; exact (cell_of_row W _ 1 _ _ (0, 0) (hb W hW))
        | j + 2, hj => exact absurd hj (by rw [List.getElem?_eq_none (show (PS.opsOf 6).length ≤ j + 2 from Nat.le_add_left 2 j)]; exact fun h => nomatch h)⟩) R hE hR)
  have HW := Lib.hid (show (V.alloc (.cells #[.int .i64 0, .int .i64 0, .string ⟨#[]⟩, .slice none 0 0] 33)).alloc (.cells #[.string ⟨#[42]⟩, .string ⟨#[47]⟩] 9) = W2 from hW2)
  have FF := Lib.hid F2
  clear h hOp hE hRR hb hW2 F2 F1 z1
  cases R with
  | out => exact absurd rfl hR
  | err q d =>
    go_enter Tryz.func164, Tryz.ntmps164
    go_wp2_with (first
      | (rw [HW.out]; go_at_call 100; refine HC.out.mono ?_; clear HC; rintro e w3 ⟨hC, rfl⟩))
    exact ⟨rfl, FF.out.chg.trans hC (fun _ _ e => e), rfl⟩
  | ok n r =>
    go_enter Tryz.func164, Tryz.ntmps164
    go_wp2_with (first
      | (rw [HW.out]; go_at_call 100; refine HC.out.mono ?_; clear HC; rintro e w3 ⟨hC, v, rfl, hv, hP⟩; obtain ⟨k2, n2, s2, A2, m2, c2, rfl⟩ := hv.shape; have F3 := Lib.hid (FF.out.step hC hP); have V3 := Lib.hid (hv.sx (x := V.heap.size) FF.out.lt (.inl FF.out.lt)); obtain ⟨q0, q1, q2, q3, r0, r1, r2, r3⟩ := F3.out.cells; obtain ⟨i1, i2, i3, i4⟩ := F3.out.nums; clear hv hC hP))
    have f := F3.out.fin V3.out [] rfl
    refine bodyPost_ret (ret_N rfl _ rfl f.1) rfl f.2
end Go.Proofs.YtlfpaemfhanpiaaGreatDoor

namespace Go.Proofs.YtlfpaemfhanpiaaGreatDoor
open Go Go.RowKit Go.Proofs
attribute [local go_sem] Oper.semAt_some field0 field1 field2 field3

/-- Which of the six operators. -/
def CmpW (s : PS.Bs) : Prop :=
  ((s == [60]) = true) ∨ ((s == [60]) = false ∧ (s == [60, 61]) = true) ∨ ((s == [60]) = false ∧ (s == [60, 61]) = false ∧ (s == [62]) = true) ∨ ((s == [60]) = false ∧ (s == [60, 61]) = false ∧ (s == [62]) = false ∧ (s == [62, 61]) = true) ∨ ((s == [60]) = false ∧ (s == [60, 61]) = false ∧ (s == [62]) = false ∧ (s == [62, 61]) = false ∧ (s == [61, 61]) = true) ∨ ((s == [60]) = false ∧ (s == [60, 61]) = false ∧ (s == [62]) = false ∧ (s == [62, 61]) = false ∧ (s == [61, 61]) = false ∧ (s == [33, 61]) = true)
theorem cmps_iff {s : PS.Bs} (h : s ∈ PS.cmps) : CmpW s ∧ s ≠ [] ∧ s.length ≤ 1000 := by
  simp only [PS.cmps, List.mem_cons, List.not_mem_nil, or_false] at h
  rcases h with rfl | rfl | rfl | rfl | rfl | rfl
  all_goals exact ⟨by unfold CmpW; decide, by decide, by decide⟩
theorem cmps_not {s : PS.Bs} (h : s ∉ PS.cmps) : (s == [60]) = false ∧ (s == [60, 61]) = false ∧ (s == [62]) = false ∧ (s == [62, 61]) = false ∧ (s == [61, 61]) = false ∧ (s == [33, 61]) = false := by
  simp only [PS.cmps, List.mem_cons, List.not_mem_nil, or_false, not_or] at h
  simpa using h
set_option maxRecDepth 100000 in
set_option maxHeartbeats 16000000 in
theorem comparison_any (K : Pc) (lv : Nat) (g : PS.Rec) (hF : PFn 160 #[.pointer (some ⟨K.g, 0, none⟩)] K lv (g (.ex 5) lv)) :
    PFn 148 #[.pointer (some ⟨K.g, 0, none⟩)] K lv (PS.step g (.ex 4) lv) := by
  intro V ts hlv h hR
  have F1 := Lib.hid (Fr.begin h)
  have hgl := h.lt
  have hE : ((g (.ex 5) lv ts).bind fun l r => PS.cmp2 l g lv r) = PS.step g (.ex 4) lv ts := rfl
  rw [← hE] at hR ⊢
  clear hE
  cases hm : g (.ex 5) lv ts with
  | out => rw [hm] at hR; exact absurd rfl hR
  | err p c =>
    have HD := Lib.hid (hF.at_ hm hlv err_ne)
    clear h hF hR hm
    go_enter Tryz.func148, Tryz.ntmps148
    go_wp2_with (first
      | (go_at_call 160; refine (HD.out _ F1.out.pat).mono ?_; clear HD; rintro e w3 ⟨hC, rfl⟩))
    exact ⟨rfl, F1.out.chg.trans hC (fun _ _ e => e), rfl⟩
  | ok l r =>
    rw [hm] at hR
    simp only [PS.PR.bind_ok] at hR ⊢
    have HD := Lib.hid (hF.at_ hm hlv ok_ne)
    obtain ⟨R, hRR⟩ : ∃ R, PS.cmp2 l g lv r = R := ⟨_, rfl⟩
    rw [hRR] at hR ⊢
    clear h hm
    go_enter Tryz.func148, Tryz.ntmps148
    go_wp2_with (first
      | (go_at_call 160; refine (HD.out _ F1.out.pat).mono ?_; clear HD; rintro e w2 ⟨hC, v, rfl, hv, hP⟩; obtain ⟨k2, n2, s2, A2, m2, c2, rfl⟩ := hv.shape; have F2 := Lib.hid (F1.out.step hC hP); have V2 := Lib.hid (hv.sx (x := w2.heap.size) F1.out.lt (.inr (Nat.le_refl _))); have B3 := Lib.hid (World.alloc_heap_new w2 (.cells #[.int .i64 k2, .int .i64 n2, .string s2, .slice A2 m2 c2] 33)); have F3 := Lib.hid (F2.out.alloc (.cells #[.int .i64 k2, .int .i64 n2, .string s2, .slice A2 m2 c2] 33)); have V3 := Lib.hid (V2.out.below ((Below.refl _ _).alloc (Nat.le_refl _) (.cells #[.int .i64 k2, .int .i64 n2, .string s2, .slice A2 m2 c2] 33))); have l2 := F2.out.lt; clear hv hC hP F2 V2))
    obtain ⟨t, u, rfl⟩ := F3.out.pat.good.ne
    have hgr := F3.out.pat.good
    by_cases ht : t.text ∈ PS.cmps
    · obtain ⟨hw, hne, htl⟩ := cmps_iff ht
      have hgu := hgr.tail hne
      rw [PS.cmp2, if_pos ht] at hRR
      cases hx : g (.ex 5) lv u with
      | out => rw [hx] at hRR; exact absurd hRR.symm hR
      | err q d =>
        rw [hx] at hRR
        have hRR : PS.PR.err q d = R := hRR
        obtain rfl := hRR
        have HX := Lib.hid (hF.at_ hx hlv err_ne)
        clear hR hx ht hF hne
        rcases hw with e0 | ⟨e0, e1⟩ | ⟨e0, e1, e2⟩ | ⟨e0, e1, e2, e3⟩ | ⟨e0, e1, e2, e3, e4⟩ | ⟨e0, e1, e2, e3, e4, e5⟩
        all_goals
          go_wp2_with (first
          | (go_at_call 60; refine (next_any _ K t u lv F3.out.pat).mono ?_; rintro e w4 ⟨rfl, hb4⟩; have F4 := Lib.hid (F3.out.below hb4); have B4 := Lib.hid ((hb4.block _ (heap_lt B3.out)).trans B3.out); have V4 := Lib.hid (V3.out.below hb4); clear hb4)
          | (go_at_call 79; refine (take_any _ K t u lv F4.out.pat hgu).mono ?_; rintro e w5 ⟨rfl, hP5, hC5⟩; have B5 := Lib.hid ((hC5.block _ (heap_lt B4.out) (by have := F4.out.g; omega)).trans B4.out); have F5 := Lib.hid (F4.out.step hC5 hP5); have V5 := Lib.hid (V4.out.step hC5 F4.out.g); obtain ⟨y0, y1, y2, y3, _⟩ := tok_cells B5.out; clear hC5 hP5))
          refine region_dies 6 20 99 3 (fun i => 20 + i) (fun i => match i with | 0 => .val (.string (PS.bs t.text)) | 1 => .val (.agg #[.int .i64 k2, .int .i64 n2, .string s2, .slice A2 m2 c2]) | 2 => .val (.pointer (some ⟨K.g, 0, none⟩)) | _ => .val undef) (by kernel_rfl) rfl (by decide) (by kernel_rfl) ?step ?dies
          case step =>
            intro listed a i hI hi hic hdep
            have hsl : ∀ i, i < 6 → 20 + i < 26 ∧ (20 ≤ 20 + i ∨ 20 + i = 99) := fun i hi => by omega
            have hij : ∀ i j : Nat, i < 6 → j < 6 → 20 + i = 20 + j → i = j := fun i j _ _ h => by omega
            have p4 : a.tmps[4]?.getD undef = .string (PS.bs t.text) := by rw [hI.low 4 (by decide) (by decide)]; rfl
            have p3 : a.tmps[3]?.getD undef = .pointer (some ⟨w2.heap.size, 0, none⟩) := by rw [hI.low 3 (by decide) (by decide)]; rfl
            have p0 : a.tmps[0]?.getD undef = .pointer (some ⟨K.g, 0, none⟩) := by rw [hI.low 0 (by decide) (by decide)]; rfl
            have hcase : i = 0 ∨ i = 1 ∨ i = 2 ∨ i = 3 ∨ i = 4 ∨ i = 5 := by omega
            rcases hcase with rfl | rfl | rfl | rfl | rfl | rfl
            · exact st_same hsl hij hI (by decide) rfl rfl rfl (by simp [execOp, go_sem, Act.eval, p4]) rfl
            · exact st_same hsl hij hI (by decide) rfl rfl rfl (by simp [execOp, go_sem, Act.eval, p3, y0, y1, y2, y3]) rfl
            · exact st_same hsl hij hI (by decide) rfl rfl rfl (by simp [execOp, go_sem, Act.eval, p0]) rfl
            · exact absurd rfl hic
            · exact absurd rfl (hdep _ rfl ⟨3, .data⟩ (by simp) rfl).2
            · exact absurd rfl (hdep _ rfl ⟨3, .phase⟩ (by simp) rfl).2
          case dies =>
            intro listed a hI hdep
            have e22 : a.tmps[22]?.getD undef = .pointer (some ⟨K.g, 0, none⟩) := hI.ok 2 (by decide) (hdep _ rfl ⟨2, .data⟩ (by simp) rfl)
            have hdf := hI.defers
            refine st_dies rfl rfl (f := 160) (args := #[.pointer (some ⟨K.g, 0, none⟩)]) (by simp [execOp, go_sem, Act.eval, e22]) ((HX.out _ F5.out.drew.pat).mono (fun e w' h => ⟨h.2, h.1⟩)) (fun w' hz => ?_)
            exact ⟨hdf, F5.out.drew.chg.trans hz (fun _ _ e => e), rfl⟩
      | ok x r' =>
        rw [hx] at hRR
        have hRR : PS.PR.ok (PS.nBin t.text l x) r' = R := hRR
        obtain rfl := hRR
        have HX := Lib.hid (hF.at_ hx hlv ok_ne)
        clear hR hx ht hF hne
        rcases hw with e0 | ⟨e0, e1⟩ | ⟨e0, e1, e2⟩ | ⟨e0, e1, e2, e3⟩ | ⟨e0, e1, e2, e3, e4⟩ | ⟨e0, e1, e2, e3, e4, e5⟩
        all_goals
          go_wp2_with (first
          | (go_at_call 60; refine (next_any _ K t u lv F3.out.pat).mono ?_; rintro e w4 ⟨rfl, hb4⟩; have F4 := Lib.hid (F3.out.below hb4); have B4 := Lib.hid ((hb4.block _ (heap_lt B3.out)).trans B3.out); have V4 := Lib.hid (V3.out.below hb4); clear hb4)
          | (go_at_call 79; refine (take_any _ K t u lv F4.out.pat hgu).mono ?_; rintro e w5 ⟨rfl, hP5, hC5⟩; have B5 := Lib.hid ((hC5.block _ (heap_lt B4.out) (by have := F4.out.g; omega)).trans B4.out); have F5 := Lib.hid (F4.out.step hC5 hP5); have V5 := Lib.hid (V4.out.step hC5 F4.out.g); obtain ⟨y0, y1, y2, y3, _⟩ := tok_cells B5.out; clear hC5 hP5))
          have hb5 := heap_lt B5.out
          go_region_law
            (first
              | (go_simp; go_at_call 160; refine (HX.out _ F5.out.drew.pat).mono ?_; rintro e w6 ⟨hC6, v6, rfl, hv6, hP6⟩
                 obtain ⟨k6, n6, s6, A6, m6, c6, rfl⟩ := hv6.shape
                 have F6 := Lib.hid (F5.out.drew.step hC6 hP6)
                 have B6 := Lib.hid ((hC6.block _ hb5 (by have := F5.out.g; omega)).trans B5.out)
                 have V6 := Lib.hid ((V5.out.below ((Below.refl _ _).drew)).step hC6 F5.out.g)
                 have X6 := Lib.hid (hv6.sx (x := w2.heap.size) F5.out.drew.lt (.inl hb5))
                 have z6 := tok_cells B6.out
                 obtain ⟨z0, z1, z2, z3, _⟩ := z6
                 clear hC6 hP6 hv6)
              | (go_simp; go_at_call 126; refine (binary_any _ _ _ _ _ _ _ _ _ _ _ _ _ _).mono ?_; rintro e w7 ⟨g7, rfl, hg7, hH7, hb7⟩
                 have F7 := Lib.hid (F6.out.below hb7)
                 have T7 := Lib.hid (Nf.two (k := 18) (n := 0) (s := PS.bs t.text) hH7 ⟨by have := F6.out.lt; omega, by have := heap_lt B6.out; omega⟩ (show t.text.toArray.size ≤ 1000 by simpa using htl) (V6.out.below hb7) (X6.out.below hb7))
                 obtain ⟨x0, x1, x2, x3, f0, f1, f2, f3⟩ := F7.out.cells
                 obtain ⟨i1, i2, i3, i4⟩ := F7.out.nums
                 clear hH7 hb7))
          all_goals
            go_wp2_with fail
            have f := F7.out.fin T7.out [] rfl
            refine bodyPost_ret (ret_N rfl _ rfl f.1) rfl f.2
    · obtain ⟨e0, e1, e2, e3, e4, e5⟩ := cmps_not ht
      rw [PS.cmp2, if_neg ht] at hRR
      obtain rfl := hRR
      clear hR ht hF
      go_wp2_with (first
          | (go_at_call 60; refine (next_any _ K t u lv F3.out.pat).mono ?_; rintro e w4 ⟨rfl, hb4⟩; have F4 := Lib.hid (F3.out.below hb4); have B4 := Lib.hid ((hb4.block _ (heap_lt B3.out)).trans B3.out); have V4 := Lib.hid (V3.out.below hb4); obtain ⟨q0, q1, q2, q3, r0, r1, r2, r3⟩ := F4.out.cells; obtain ⟨i1, i2, i3, i4⟩ := F4.out.nums; obtain ⟨b0, b1, b2, b3, _⟩ := tok_cells B4.out; clear hb4))
      have f := F4.out.fin V4.out [] rfl
      refine bodyPost_ret (ret_N rfl _ rfl f.1) rfl f.2
end Go.Proofs.YtlfpaemfhanpiaaGreatDoor
