/-
  The parser's next, sees, fail, need, take, must, number. Condition: the parser stands (PAt).
  The parser's must, number; isKeyword, isBuiltIn, isName. Condition: the parser stands (PAt).
  The parser's isName; slices.Index and slices.Contains of strings. Condition: the strings stand.
  slices.Equal over strings; the reference's SameTexts. Conditions: the slices hold these strings.
  Trees and the blocks in which they lie; the parser's binary. Condition: the operands are nodes.
  What a parsing function does, as a premise; the end of such a function; the parser's deeper. Conditions: the parser stands; the inner function parses.
-/
import Derived.Test.YtlfpaemfhanpiaaGreatDoorK23
import Derived.BigQuiet
import Derived.Lib.Bytes
import Derived.IntWalk

namespace Go.Proofs.YtlfpaemfhanpiaaGreatDoor
open Go Go.RowKit Go.Proofs
attribute [local go_sem] Oper.semAt_some

/-- A token as a value. -/
abbrev tkv (t : LX.Tok) : Value := .agg #[.int .i64 (t.kind : Int), .int .i64 (t.pos : Int), .string (PS.bs t.text), .int .i64 (t.num : Int)]
theorem ret_T {fn : Func} {p : Tmp} (hf : fn.results = #[.cell p 86]) {V : World} {b : Nat} {c0 c1 c2 c3 : Value} (tmps : Array Value) (hp : tmps.getD p undef = .pointer (some ⟨b, 0, none⟩)) (h : V.heap[b]? = some (.cells #[c0, c1, c2, c3] 86 (0, 0))) : (results fn tmps).run Tryz.prog V = .ok (.agg #[c0, c1, c2, c3]) V :=
  results_cell_row hf tmps V b 86 #[c0, c1, c2, c3] (0, 0) _ hp h Tryz.underlying86 rfl info_tok
/-- What the parser's block shows. -/
theorem PAt.open_ {V : World} {K : Pc} {ts : List LX.Tok} {lv : Nat} (h : PAt V K ts lv) : ∃ off c, V.heap[K.g]? = some (.cells #[.slice (some ⟨K.tb, off * 4, none⟩) ts.length c, .int .i64 (lv : Int), K.dv, K.vv, K.ov, K.mv] 71 (0, 0)) ∧ ts.length ≤ c ∧ c ≤ maxLen ∧ Tks V K off ts ∧ K.tb ≠ K.g ∧ K.mb ≠ K.g := h
/-- A field of a token. -/
theorem field0 (a b c d : Value) (w : World) : (Instr.field 86 (.agg #[a, b, c, d]) 0).run Tryz.prog w = .ok a w := by
  simp [Instr.field, go_sem, part, asAgg, Tryz.isAgg3]
theorem field1 (a b c d : Value) (w : World) : (Instr.field 86 (.agg #[a, b, c, d]) 1).run Tryz.prog w = .ok b w := by
  simp [Instr.field, go_sem, part, asAgg, Tryz.isAgg3]
theorem field2 (a b c d : Value) (w : World) : (Instr.field 86 (.agg #[a, b, c, d]) 2).run Tryz.prog w = .ok c w := by
  simp [Instr.field, go_sem, part, asAgg, Tryz.isAgg9]
theorem field3 (a b c d : Value) (w : World) : (Instr.field 86 (.agg #[a, b, c, d]) 3).run Tryz.prog w = .ok d w := by
  simp [Instr.field, go_sem, part, asAgg, Tryz.isAgg3]
attribute [local go_sem] field0 field1 field2 field3
theorem bs_list (a : PS.Bs) : (PS.bs a).toList = a := by rw [Lib.toList_data]
theorem txt_eq (a b : PS.Bs) : ((PS.bs a).toList == (PS.bs b).toList) = decide (a = b) := by
  rw [bs_list, bs_list, Bool.eq_iff_iff, beq_iff_eq, decide_eq_true_iff]
/-- What a function does that gives no tree. -/
def URes {α : Type} (V : World) (K : Pc) (lv : Nat) (f : α → Value) (R : PS.PR α) (e : Ending) (w' : World) : Prop :=
  Chg (· = K.g) V w' ∧ match R with
  | .ok a r => e = .returned (f a) ∧ PAt w' K r lv
  | .err p c => e = failV p c
  | .out => False
set_option maxRecDepth 100000 in
set_option maxHeartbeats 2000000 in
theorem next_any (V : World) (K : Pc) (t : LX.Tok) (u : List LX.Tok) (lv : Nat) (h : PAt V K (t :: u) lv) :
    Calls Tryz.prog 60 #[.pointer (some ⟨K.g, 0, none⟩)] V fun e w' => e = .returned (.agg #[.int .i64 (t.kind : Int), .int .i64 (t.pos : Int), .string (PS.bs t.text), .int .i64 (t.num : Int)]) ∧ Below V.heap.size V w' := by
  obtain ⟨off, c, h1, h2, h3, h4, h5⟩ := h
  obtain ⟨k0, k1, k2, k3⟩ := h4.cell 0 t rfl
  have hlt := h4.lt
  have hgl := heap_lt h1
  have c0 : V.cell? ⟨K.g, 0, none⟩ = some (.slice (some ⟨K.tb, off * 4, none⟩) (t :: u).length c) := cell_of_row V _ 0 _ _ (0, 0) h1
  have hm : (0 : Int) < ((t :: u).length : Int) := by simp
  obtain ⟨m, hmm⟩ : ∃ m, (t :: u).length = m := ⟨_, rfl⟩
  rw [hmm] at c0 hm
  simp only [Nat.add_zero] at k0 k1 k2 k3
  clear h1 h2 h3 h4 h5 hmm
  go_enter Tryz.func60, Tryz.ntmps60
  go_wp2_with fail
  refine bodyPost_ret (v := tkv t) (ret_T rfl _ rfl (World.alloc_heap_new V _)) rfl ⟨rfl, (Below.refl _ _).alloc (Nat.le_refl _) _⟩
set_option maxRecDepth 100000 in
set_option maxHeartbeats 2000000 in
theorem sees_any (V : World) (K : Pc) (t : LX.Tok) (u : List LX.Tok) (lv : Nat) (s : PS.Bs) (h : PAt V K (t :: u) lv) :
    Calls Tryz.prog 56 #[.pointer (some ⟨K.g, 0, none⟩), .string (PS.bs s)] V fun e w' => e = .returned (.bool (t.text == s)) ∧ Below V.heap.size V w' := by
  have HN := Lib.hid (next_any V K t u lv h)
  clear h
  go_enter Tryz.func56, Tryz.ntmps56
  go_wp2_with (first
    | (go_at_call 60; refine HN.out.mono ?_; clear HN; rintro e w2 ⟨rfl, hb⟩))
  go_ret
  exact ⟨rfl, hb⟩
set_option maxRecDepth 100000 in
set_option maxHeartbeats 2000000 in
theorem fail_any (V : World) (K : Pc) (t : LX.Tok) (u : List LX.Tok) (lv : Nat) (c : Nat) (h : PAt V K (t :: u) lv) :
    Calls Tryz.prog 83 #[.pointer (some ⟨K.g, 0, none⟩), .int .i64 (c : Int)] V fun e w' => e = failV t.pos c ∧ Below V.heap.size V w' := by
  have HN := Lib.hid (next_any V K t u lv h)
  clear h
  go_enter Tryz.func83, Tryz.ntmps83
  go_wp2_with (first
    | (go_at_call 60; refine HN.out.mono ?_; clear HN; rintro e w2 ⟨rfl, hb⟩))
  exact ⟨rfl, rfl, hb⟩
set_option maxRecDepth 100000 in
set_option maxHeartbeats 2000000 in
theorem need_any (V : World) (K : Pc) (t : LX.Tok) (u : List LX.Tok) (lv : Nat) (b : Bool) (h : PAt V K (t :: u) lv) :
    Calls Tryz.prog 59 #[.pointer (some ⟨K.g, 0, none⟩), .bool b] V fun e w' => e = (if b = true then .returned (.tuple #[]) else failV t.pos 10) ∧ Below V.heap.size V w' := by
  have HN := Lib.hid (fail_any V K t u lv 10 h)
  clear h
  cases b
  · go_enter Tryz.func59, Tryz.ntmps59
    go_wp2_with (first
      | (go_at_call 83; refine HN.out.mono ?_; clear HN; rintro e w2 ⟨rfl, hb⟩))
    exact ⟨rfl, rfl, hb⟩
  · go_enter Tryz.func59, Tryz.ntmps59
    go_wp2_with fail
    go_end0
    exact ⟨rfl, Below.refl _ _⟩
/-- Behind take's stores. -/
theorem take_mem {V w2 : World} {K : Pc} {t : LX.Tok} {u : List LX.Tok} {off c lv b : Nat} {a0 a1 a2 a3 : Value} {T : TypeId} (hbx : w2.heap[b]? = some (.cells #[a0, a1, a2, a3] T (0, 0)))
    (h1 : w2.heap[K.g]? = some (.cells #[.slice (some ⟨K.tb, off * 4, none⟩) (t :: u).length c, .int .i64 (lv : Int), K.dv, K.vv, K.ov, K.mv] 71 (0, 0))) (h4 : Tks w2 K off (t :: u)) (hn : ¬ K.g = b) (h5 : K.tb ≠ K.g ∧ K.mb ≠ K.g) (hb : ¬ K.tb = b) (hmb : ¬ K.mb = b) (h2 : u.length + 1 ≤ c) (h3 : c ≤ maxLen) (hu : PS.Good u) (hB : Below b V w2) (c0 c1 c2 c3 : Value) (X : Obj) {U : World}
    (hU : (((((w2.setCell ⟨K.g, 0, none⟩ (.slice (some ⟨K.tb, off * 4 + 4, none⟩) u.length (c - 1))).setCell ⟨b, 0, none⟩ c0).setCell ⟨b, 1, none⟩ c1).setCell ⟨b, 2, none⟩ c2).setCell ⟨b, 3, none⟩ c3).alloc X = U) :
    U.heap[b]? = some (.cells #[c0, c1, c2, c3] T (0, 0)) ∧ PAt U K u lv ∧ (b = V.heap.size → Chg (· = K.g) V U) := by
  subst hU
  obtain ⟨W3, hW3⟩ : ∃ W, w2.setCell ⟨K.g, 0, none⟩ (.slice (some ⟨K.tb, off * 4 + 4, none⟩) u.length (c - 1)) = W := ⟨_, rfl⟩
  have g3 : W3.heap[K.g]? = some (.cells #[.slice (some ⟨K.tb, off * 4 + 4, none⟩) u.length (c - 1), .int .i64 (lv : Int), K.dv, K.vv, K.ov, K.mv] 71 (0, 0)) := by rw [← hW3]; exact row_set h1 _
  have b3 : W3.heap[b]? = some (.cells #[a0, a1, a2, a3] T (0, 0)) := by rw [← hW3]; exact (Below.heap_setCell _ _ _ _ (fun e => hn e.symm)).trans hbx
  have t3 : W3.heap[K.tb]? = w2.heap[K.tb]? := by rw [← hW3]; exact Below.heap_setCell _ _ _ _ h5.1
  have m3 : W3.heap[K.mb]? = w2.heap[K.mb]? := by rw [← hW3]; exact Below.heap_setCell _ _ _ _ h5.2
  have z3 : W3.heap.size = w2.heap.size := by rw [← hW3]; simp [World.setCell]
  have ch3 : Chg (· = K.g) w2 W3 := by rw [← hW3]; exact (Chg.refl (· = K.g) w2).setCell (p := ⟨K.g, 0, none⟩) (fun _ => rfl) _
  rw [hW3]
  obtain ⟨W4, hW4⟩ : ∃ W, (((W3.setCell ⟨b, 0, none⟩ c0).setCell ⟨b, 1, none⟩ c1).setCell ⟨b, 2, none⟩ c2).setCell ⟨b, 3, none⟩ c3 = W := ⟨_, rfl⟩
  have b4 : W4.heap[b]? = some (.cells #[c0, c1, c2, c3] T (0, 0)) := by rw [← hW4]; exact tok_set b3 _ _ _ _
  have k4 : ∀ x, x ≠ b → W4.heap[x]? = W3.heap[x]? := fun x hx => by
    rw [← hW4]
    exact (Below.heap_setCell _ _ _ _ hx).trans ((Below.heap_setCell _ _ _ _ hx).trans ((Below.heap_setCell _ _ _ _ hx).trans (Below.heap_setCell _ _ _ _ hx)))
  have ch4 : Chg (· = b) W3 W4 := by
    rw [← hW4]
    exact ((((Chg.refl (· = b) W3).setCell (p := ⟨b, 0, none⟩) (fun _ => rfl) _).setCell (p := ⟨b, 1, none⟩) (fun _ => rfl) _).setCell (p := ⟨b, 2, none⟩) (fun _ => rfl) _).setCell (p := ⟨b, 3, none⟩) (fun _ => rfl) _
  have z4 : W4.heap.size = W3.heap.size := by rw [← hW4]; simp [World.setCell]
  rw [hW4]
  have hbl := heap_lt b4
  have hgl := heap_lt g3
  have htl := h4.lt
  have hml := heap_lt h4.map
  refine ⟨(Below.heap_alloc W4 X b hbl).trans b4, ⟨off + 1, c - 1, ?_, by omega, by omega, ⟨fun i x hx => ?_, by rw [World.size_alloc]; omega, (Below.heap_alloc W4 X K.mb (by omega)).trans ((k4 K.mb hmb).trans (m3.trans h4.map)), by have := h4.big; simp at this; omega, hu⟩, h5⟩, fun hbV => ?_⟩
  · rw [show (off + 1) * 4 = off * 4 + 4 by omega]
    exact (Below.heap_alloc W4 X K.g (by omega)).trans ((k4 K.g hn).trans g3)
  · rw [show off + 1 + i = off + (i + 1) by omega]
    exact (h4.cell (i + 1) x (by simpa using hx)).keep ((Below.heap_alloc W4 X K.tb (by omega)).trans ((k4 K.tb hb).trans t3))
  · subst hbV
    exact (((Chg.of_new hB (· = K.g)).trans ch3 (fun x _ e => e)).trans ch4 (fun x hx e => absurd hx (by omega))).alloc X
set_option maxRecDepth 100000 in
set_option maxHeartbeats 2000000 in
theorem take_any (V : World) (K : Pc) (t : LX.Tok) (u : List LX.Tok) (lv : Nat) (h : PAt V K (t :: u) lv) (hu : PS.Good u) :
    Calls Tryz.prog 79 #[.pointer (some ⟨K.g, 0, none⟩)] V fun e w' => e = .returned (.agg #[.int .i64 (t.kind : Int), .int .i64 (t.pos : Int), .string (PS.bs t.text), .int .i64 (t.num : Int)]) ∧ PAt w' K u lv ∧ Chg (· = K.g) V w' := by
  have hg := h.lt
  have HN := Lib.hid (fun (W : World) (hW : Below V.heap.size V W) => next_any W K t u lv (h.keep hW))
  have H := Lib.hid h
  have HU := Lib.hid hu
  clear h hu
  go_enter Tryz.func79, Tryz.ntmps79
  go_wp2_with (first
    | (go_at_call 60; refine (HN.out _ ((Below.refl _ _).alloc (Nat.le_refl _) _)).mono ?_; clear HN; rintro e w2 ⟨rfl, hb⟩
       have hz := hb.size
       rw [World.size_alloc] at hz
       have hbx := (hb.block V.heap.size (by rw [World.size_alloc]; omega)).trans (World.alloc_heap_new V _)
       have hB : Below V.heap.size V w2 := ((Below.refl _ V).alloc (Nat.le_refl _) _).trans (hb.mono (by rw [World.size_alloc]; omega))
       have P2 := H.out.keep hB
       obtain ⟨off, c, h1, h2, h3, h4, h5⟩ := P2
       have hul := HU.out.len
       obtain ⟨q0, q1, q2, q3, qf⟩ := tok_cells hbx
       have r0 := qf 0
       have r1 := qf 1
       have r2 := qf 2
       have r3 := qf 3
       have c0 : w2.cell? ⟨K.g, 0, none⟩ = some (.slice (some ⟨K.tb, off * 4, none⟩) (t :: u).length c) := cell_of_row w2 _ 0 _ _ (0, 0) h1
       have f0 : w2.frozen? ⟨K.g, 0, none⟩ = false := by simp [World.frozen?, h1]
       rw [List.length_cons] at c0 h2
       have hgz : K.g < w2.heap.size := by omega
       have hvz : V.heap.size < w2.heap.size := by omega
       have hn1 : ¬ V.heap.size = K.g := by omega
       have hn2 : ¬ K.g = V.heap.size := by omega
       have hm1 : (1 : Int) ≤ ((u.length + 1 : Nat) : Int) := by omega
       have hm2 : ((u.length + 1 : Nat) : Int) ≤ (c : Int) := by omega
       have hc1 : ¬ (c = 1) := by omega
       have H1 := Lib.hid h1
       have H4 := Lib.hid h4
       have HBX := Lib.hid hbx
       have HBB := Lib.hid hB
       clear h1 h4 hbx hB hb qf))
  have n1 := take_mem (K := K) HBX.out H1.out H4.out hn2 h5 (by have := H.out.ltb; omega) (by have := H.out.ltm; omega) h2 h3 HU.out HBB.out (.int .i64 (t.kind : Int)) (.int .i64 (t.pos : Int)) (.string (PS.bs t.text)) (.int .i64 (t.num : Int)) (.cells #[.int .i64 (t.kind : Int), .int .i64 (t.pos : Int), .string (PS.bs t.text), .int .i64 (t.num : Int)] 86) rfl
  refine bodyPost_ret (v := tkv t) (ret_T rfl _ rfl n1.1) rfl ⟨rfl, n1.2.1, n1.2.2 rfl⟩
end Go.Proofs.YtlfpaemfhanpiaaGreatDoor

namespace Go.Proofs.YtlfpaemfhanpiaaGreatDoor
open Go Go.RowKit Go.Proofs
attribute [local go_sem] Oper.semAt_some field0 field1 field2 field3

theorem chgB {V W : World} {S : Nat → Prop} (h : Below V.heap.size V W) : Chg S V W := Chg.of_new h S
set_option maxRecDepth 100000 in
set_option maxHeartbeats 2000000 in
theorem must_any (V : World) (K : Pc) (ts : List LX.Tok) (lv : Nat) (s : PS.Bs) (hs : s ≠ []) (h : PAt V K ts lv) :
    Calls Tryz.prog 76 #[.pointer (some ⟨K.g, 0, none⟩), .string (PS.bs s)] V (URes V K lv (fun _ : Unit => .tuple #[]) (PS.must s ts)) := by
  obtain ⟨t, u, rfl⟩ := h.good.ne
  have HS := Lib.hid (fun (W : World) (hW : Below V.heap.size V W) => sees_any W K t u lv s (h.keep hW))
  have HN := Lib.hid (fun (W : World) (b : Bool) (hW : Below V.heap.size V W) => need_any W K t u lv b (h.keep hW))
  by_cases e : t.text = s
  · have HT := Lib.hid (fun (W : World) (hW : Below V.heap.size V W) => take_any W K t u lv (h.keep hW) (h.good.tail (by rw [e]; exact hs)))
    simp only [PS.must, if_pos e]
    have hb : (t.text == s) = true := by rw [beq_iff_eq]; exact e
    rw [hb] at HS
    clear h e
    have B := Below.refl V.heap.size V
    go_enter Tryz.func76, Tryz.ntmps76
    go_wp2_with (first
      | (go_at_call 56; refine (HS.out _ B).mono ?_; clear HS; rintro e w2 ⟨rfl, hb2⟩; have B2 := B.trans (hb2.mono B.size); clear hb2)
      | (go_at_call 59; refine (HN.out _ _ B2).mono ?_; clear HN; rintro e w3 ⟨rfl, hb3⟩; have B3 := B2.trans (hb3.mono B2.size); clear hb3)
      | (go_at_call 79; refine (HT.out _ B3).mono ?_; clear HT; rintro e w4 ⟨rfl, hP, hC⟩))
    go_end0
    exact ⟨(chgB B3).trans hC (fun _ _ e => e), rfl, hP⟩
  · simp only [PS.must, if_neg e]
    have hb : (t.text == s) = false := by rw [beq_eq_false_iff_ne]; exact e
    rw [hb] at HS
    clear h e
    have B := Below.refl V.heap.size V
    go_enter Tryz.func76, Tryz.ntmps76
    go_wp2_with (first
      | (go_at_call 56; refine (HS.out _ B).mono ?_; clear HS; rintro e w2 ⟨rfl, hb2⟩; have B2 := B.trans (hb2.mono B.size); clear hb2)
      | (go_at_call 59; refine (HN.out _ _ B2).mono ?_; clear HN; rintro e w3 ⟨rfl, hb3⟩; have B3 := B2.trans (hb3.mono B2.size); clear hb3))
    exact ⟨rfl, chgB B3, rfl⟩
set_option maxRecDepth 100000 in
set_option maxHeartbeats 2000000 in
theorem number_any (V : World) (K : Pc) (ts : List LX.Tok) (lv lim : Nat) (h : PAt V K ts lv) :
    Calls Tryz.prog 80 #[.pointer (some ⟨K.g, 0, none⟩), .int .i64 (lim : Int)] V (URes V K lv (fun n : Nat => .int .i64 (n : Int)) (PS.numb lim ts)) := by
  obtain ⟨t, u, rfl⟩ := h.good.ne
  have HX := Lib.hid (fun (W : World) (hW : Below V.heap.size V W) => next_any W K t u lv (h.keep hW))
  have HN := Lib.hid (fun (W : World) (b : Bool) (hW : Below V.heap.size V W) => need_any W K t u lv b (h.keep hW))
  have HF := Lib.hid (fun (W : World) (hW : Below V.heap.size V W) => fail_any W K t u lv 6 (h.keep hW))
  have B := Below.refl V.heap.size V
  by_cases e : t.kind = 2
  · have HT := Lib.hid (fun (W : World) (hW : Below V.heap.size V W) => take_any W K t u lv (h.keep hW) (h.good.tail_k (by omega)))
    have hk : ((t.kind : Int) == 2) = true := by rw [e]; rfl
    clear h
    by_cases el : lim ≤ t.num
    · simp only [PS.numb, if_pos e, if_pos el]
      have hl : (lim : Int) ≤ (t.num : Int) := by omega
      clear e el HT
      go_enter Tryz.func80, Tryz.ntmps80
      go_wp2_with (first
        | (go_at_call 60; refine (HX.out _ B).mono ?_; clear B; rintro e w2 ⟨rfl, hb2⟩; have B2 := hb2; clear hb2)
        | (go_at_call 59; refine (HN.out _ _ B2).mono ?_; clear HN; rintro e w3 ⟨rfl, hb3⟩; have B3 := B2.trans (hb3.mono B2.size); clear hb3 B2)
        | (go_at_call 60; refine (HX.out _ B3).mono ?_; clear HX; rintro e w4 ⟨rfl, hb4⟩; have B4 := B3.trans (hb4.mono B3.size); clear hb4)
        | (go_at_call 83; refine (HF.out _ B4).mono ?_; clear HF; rintro e w5 ⟨rfl, hb5⟩; have B5 := B4.trans (hb5.mono B4.size); clear hb5))
      exact ⟨rfl, chgB B5, rfl⟩
    · simp only [PS.numb, if_pos e, if_neg el]
      have hl : ¬ (lim : Int) ≤ (t.num : Int) := by omega
      clear e el HF
      go_enter Tryz.func80, Tryz.ntmps80
      go_wp2_with (first
        | (go_at_call 60; refine (HX.out _ B).mono ?_; clear B; rintro e w2 ⟨rfl, hb2⟩; have B2 := hb2; clear hb2)
        | (go_at_call 59; refine (HN.out _ _ B2).mono ?_; clear HN; rintro e w3 ⟨rfl, hb3⟩; have B3 := B2.trans (hb3.mono B2.size); clear hb3 B2)
        | (go_at_call 60; refine (HX.out _ B3).mono ?_; clear HX; rintro e w4 ⟨rfl, hb4⟩; have B4 := B3.trans (hb4.mono B3.size); clear hb4)
        | (go_at_call 79; refine (HT.out _ B4).mono ?_; clear HT; rintro e w5 ⟨rfl, hP, hC⟩))
      go_ret
      exact ⟨(chgB B4).trans hC (fun _ _ e => e), rfl, hP⟩
  · simp only [PS.numb, if_neg e]
    have hk : ((t.kind : Int) == 2) = false := by rw [beq_eq_false_iff_ne]; omega
    clear h e HF
    go_enter Tryz.func80, Tryz.ntmps80
    go_wp2_with (first
      | (go_at_call 60; refine (HX.out _ B).mono ?_; clear B; rintro e w2 ⟨rfl, hb2⟩; have B2 := hb2; clear hb2)
      | (go_at_call 59; refine (HN.out _ _ B2).mono ?_; clear HN; rintro e w3 ⟨rfl, hb3⟩; have B3 := B2.trans (hb3.mono B2.size); clear hb3 B2))
    exact ⟨rfl, chgB B3, rfl⟩
set_option maxRecDepth 100000 in
set_option maxHeartbeats 4000000 in
theorem isBuiltIn_any (V : World) (s : PS.Bs) : Calls Tryz.prog 130 #[.string (PS.bs s)] V fun e w' => e = .returned (.bool (PS.isBi s)) ∧ w' = V := by
  go_enter Tryz.func130, Tryz.ntmps130
  go_wp2_with fail
  all_goals
    go_ret
    refine ⟨?_, rfl⟩
    simp_all [PS.isBi, PS.bins]
set_option maxRecDepth 100000 in
set_option maxHeartbeats 8000000 in
theorem isKeyword_any (V : World) (s : PS.Bs) : Calls Tryz.prog 129 #[.string (PS.bs s)] V fun e w' => e = .returned (.bool (PS.isKw s)) ∧ w' = V := by
  go_enter Tryz.func129, Tryz.ntmps129
  go_wp2_with fail
  all_goals
    go_ret
    refine ⟨?_, rfl⟩
    simp_all [PS.isKw, PS.kwds]
end Go.Proofs.YtlfpaemfhanpiaaGreatDoor

namespace Go.Proofs.YtlfpaemfhanpiaaGreatDoor
open Go Go.RowKit Go.Proofs
attribute [local go_sem] Oper.semAt_some field0 field1 field2 field3

set_option maxRecDepth 100000 in
set_option maxHeartbeats 4000000 in
theorem isName_any (V : World) (t : LX.Tok) : Calls Tryz.prog 104 #[.agg #[.int .i64 (t.kind : Int), .int .i64 (t.pos : Int), .string (PS.bs t.text), .int .i64 (t.num : Int)]] V fun e w' => e = .returned (.bool (PS.isName t)) ∧ Below V.heap.size V w' := by
  have HK := Lib.hid (fun W => isKeyword_any W t.text)
  have HB := Lib.hid (fun W => isBuiltIn_any W t.text)
  have hbb : Below V.heap.size V (V.alloc (.cells #[.int .i64 (t.kind : Int), .int .i64 (t.pos : Int), .string (PS.bs t.text), .int .i64 (t.num : Int)] 86)) := (Below.refl _ _).alloc (Nat.le_refl _) _
  have HBB := Lib.hid hbb
  clear hbb
  unfold PS.isName
  obtain ⟨q1, h1⟩ : ∃ q, PS.isKw t.text = q := ⟨_, rfl⟩
  obtain ⟨q2, h2⟩ : ∃ q, PS.isBi t.text = q := ⟨_, rfl⟩
  rw [h1] at HK ⊢
  rw [h2] at HB ⊢
  clear h1 h2
  by_cases e : t.kind = 1
  · have hk : ((t.kind : Int) == 1) = true := by rw [e]; rfl
    rw [decide_eq_true e]
    clear e
    cases q1
    · go_enter Tryz.func104, Tryz.ntmps104
      go_wp2_with (first
        | (go_at_call 129; refine (HK.out _).mono ?_; clear HK; rintro e w2 ⟨rfl, rfl⟩)
        | (go_at_call 130; refine (HB.out _).mono ?_; clear HB; rintro e w3 ⟨rfl, rfl⟩))
      go_ret
      exact ⟨by simp, HBB.out⟩
    · go_enter Tryz.func104, Tryz.ntmps104
      go_wp2_with (first
        | (go_at_call 129; refine (HK.out _).mono ?_; clear HK; rintro e w2 ⟨rfl, rfl⟩))
      go_ret
      exact ⟨by simp, HBB.out⟩
  · have hk : ((t.kind : Int) == 1) = false := by rw [beq_eq_false_iff_ne]; omega
    rw [decide_eq_false e]
    clear e
    go_enter Tryz.func104, Tryz.ntmps104
    go_wp2_with fail
    go_ret
    exact ⟨by simp, HBB.out⟩
/-- The strings l lie one after another at A. -/
def SRow (W : World) (A : Option Addr) (l : List PS.Bs) : Prop := l = [] ∨ ∃ b off, A = some ⟨b, off, none⟩ ∧ b < W.heap.size ∧ ∀ (j : Nat) (s : PS.Bs), l[j]? = some s → W.cell? ⟨b, off + j, none⟩ = some (.string (PS.bs s))
theorem SRow.keep {W W' : World} {A : Option Addr} {l : List PS.Bs} (h : SRow W A l) (hb : Below W.heap.size W W') : SRow W' A l := by
  rcases h with h | ⟨b, off, e, hlt, hc⟩
  · exact .inl h
  · exact .inr ⟨b, off, e, Nat.lt_of_lt_of_le hlt hb.size, fun j s hs => (hb.cell (p := ⟨b, off + j, none⟩) hlt).trans (hc j s hs)⟩
theorem take_snoc_mem {l : List PS.Bs} {s x : PS.Bs} {j : Nat} (hx : l[j]? = some x) (h : s ∉ l.take j) (e : s ≠ x) : s ∉ l.take (j + 1) := by
  rw [List.take_add_one, hx, Option.toList_some, List.mem_append, List.mem_singleton]
  exact fun hh => hh.elim h e
set_option maxRecDepth 100000 in
set_option maxHeartbeats 4000000 in
theorem sIndex_any (V : World) (A : Option Addr) (l : List PS.Bs) (m c : Nat) (s : PS.Bs) (hm : l.length = m) (hm2 : m ≤ 100000) (h : SRow V A l) :
    Calls Tryz.prog 131 #[.slice A m c, .string (PS.bs s)] V fun e w' => ∃ z : Int, e = .returned (.int .i64 z) ∧ decide (z ≥ 0) = decide (s ∈ l) ∧ w' = V := by
  have HM := Lib.hid hm
  have H := Lib.hid h
  clear hm h
  go_enter Tryz.func131, Tryz.ntmps131
  go_wp2_with fail
  go_loopw [8] (fun i W => ∃ j : Nat, j ≤ m ∧ i = .int .i64 (j : Int) ∧ Hid (s ∉ l.take j) ∧ Hid (W = V)) (fun i _ => m - (intOf i).toNat)
  case atStart => exact ⟨0, by omega, rfl, (show s ∉ l.take 0 by simp), rfl⟩
  case round =>
    obtain ⟨j, hj, rfl, hT, hW⟩ := hrel
    obtain rfl : wr = V := hW.out
    by_cases hjm : j < m
    · obtain ⟨x, hx⟩ : ∃ x, l[j]? = some x := ⟨l[j]'(by rw [HM.out]; exact hjm), List.getElem?_eq_getElem _⟩
      obtain ⟨b, off, rfl, hlt, hc⟩ : ∃ b off, A = some ⟨b, off, none⟩ ∧ b < wr.heap.size ∧ ∀ (j : Nat) (s : PS.Bs), l[j]? = some s → wr.cell? ⟨b, off + j, none⟩ = some (.string (PS.bs s)) := by
        rcases H.out with e | e
        · rw [e] at hx; cases hx
        · exact e
      have c0 := hc j x hx
      have hji : (j : Int) < (m : Int) := by omega
      by_cases e : s = x
      · have hb : (s == x) = true := by rw [beq_iff_eq]; exact e
        have hmem : s ∈ l := e ▸ List.mem_of_getElem? hx
        have HY := Lib.hid (show decide ((j : Int) ≥ 0) = decide (s ∈ l) by rw [decide_eq_true hmem, decide_eq_true_iff]; omega)
        clear hc hx e hmem hT hW
        go_wp2_with fail
        go_ret
        exact ⟨_, rfl, HY.out, rfl⟩
      · have hb : (s == x) = false := by rw [beq_eq_false_iff_ne]; exact e
        have HT := Lib.hid (take_snoc_mem hx hT.out e)
        clear hc hx e hT hW
        go_wp2_with fail
        go_roundw
        case rel => exact ⟨j + 1, by omega, by go_num, HT.out, Lib.hid trivial⟩
        case measure => simp [intOf]; omega
    · obtain rfl : j = m := by omega
      have hno : s ∉ l := by
        have := hT.out
        rwa [List.take_of_length_le (by rw [HM.out]; exact Nat.le_refl _)] at this
      have HY := Lib.hid (show decide ((-1 : Int) ≥ 0) = decide (s ∈ l) by rw [decide_eq_false hno]; decide)
      clear hno hT hW
      go_wp2_with fail
      go_ret
      exact ⟨_, rfl, HY.out, rfl⟩
set_option maxRecDepth 100000 in
theorem sContains_any (V : World) (A : Option Addr) (l : List PS.Bs) (m c : Nat) (s : PS.Bs) (hm : l.length = m) (hm2 : m ≤ 100000) (h : SRow V A l) :
    Calls Tryz.prog 105 #[.slice A m c, .string (PS.bs s)] V fun e w' => e = .returned (.bool (decide (s ∈ l))) ∧ w' = V := by
  have HI := Lib.hid (sIndex_any V A l m c s hm hm2 h)
  obtain ⟨y, hy⟩ : ∃ y, decide (s ∈ l) = y := ⟨_, rfl⟩
  rw [hy] at HI ⊢
  clear h hm hy
  go_enter Tryz.func105, Tryz.ntmps105
  go_wp2_with (first
    | (go_at_call 131; refine HI.out.mono ?_; clear HI; rintro e w2 ⟨z, rfl, hz, rfl⟩))
  go_ret
  exact ⟨rfl, rfl⟩
end Go.Proofs.YtlfpaemfhanpiaaGreatDoor

namespace Go.Proofs.YtlfpaemfhanpiaaGreatDoor
open Go Go.RowKit Go.Proofs
attribute [local go_sem] Oper.semAt_some

theorem takeS_same {l l' : List PS.Bs} {j : Nat} {t : PS.Bs} (h : l.take j = l'.take j) (h1 : l[j]? = some t) (h2 : l'[j]? = some t) : l.take (j + 1) = l'.take (j + 1) := by
  rw [List.take_add_one, List.take_add_one, h, h1, h2]
theorem SRow.at_ {W : World} {A : Option Addr} {l : List PS.Bs} (h : SRow W A l) {j : Nat} {s : PS.Bs} (hs : l[j]? = some s) : ∃ b off, A = some ⟨b, off, none⟩ ∧ b < W.heap.size ∧ W.cell? ⟨b, off + j, none⟩ = some (.string (PS.bs s)) := by
  rcases h with rfl | ⟨b, off, e, hb, hc⟩
  · cases hs
  · exact ⟨b, off, e, hb, hc j s hs⟩
set_option maxRecDepth 100000 in
set_option maxHeartbeats 4000000 in
theorem equalS_any (W : World) (A A' : Option Addr) (l l' : List PS.Bs) (c c' : Nat) (hm : l.length ≤ 100000) (h : SRow W A l) (h' : SRow W A' l') :
    Calls Tryz.prog 27 #[.slice A l.length c, .slice A' l'.length c'] W fun e w' => e = .returned (.bool (decide (l = l'))) ∧ Below W.heap.size W w' := by
  by_cases hlen : l.length = l'.length
  · obtain ⟨m, hm0⟩ : ∃ m, l.length = m := ⟨_, rfl⟩
    have hm1 : l'.length = m := by omega
    rw [hm0] at hm ⊢
    rw [hm1]
    have HM := Lib.hid hm0
    have HM1 := Lib.hid hm1
    have H := Lib.hid h
    have H' := Lib.hid h'
    clear hm0 hm1 h h' hlen
    go_enter Tryz.func27, Tryz.ntmps27
    go_wp2_with fail
    go_loopw [13] (fun i V => ∃ j : Nat, j ≤ m ∧ i = .int .i64 (j : Int) ∧ Hid (l.take j = l'.take j) ∧ Hid (Below W.heap.size W V)) (fun i _ => m - (intOf i).toNat)
    case atStart => exact ⟨0, by omega, rfl, (show l.take 0 = l'.take 0 from rfl), Below.refl _ _⟩
    case round =>
      obtain ⟨j, hj, rfl, hT, hBl⟩ := hrel
      by_cases hjm : j < m
      · obtain ⟨t, htj⟩ : ∃ t, l[j]? = some t := ⟨l[j]'(by rw [HM.out]; exact hjm), List.getElem?_eq_getElem (by rw [HM.out]; exact hjm)⟩
        obtain ⟨t', htj'⟩ : ∃ t, l'[j]? = some t := ⟨l'[j]'(by rw [HM1.out]; exact hjm), List.getElem?_eq_getElem (by rw [HM1.out]; exact hjm)⟩
        obtain ⟨b, off, rfl, hb, c0⟩ := H.out.at_ htj
        obtain ⟨b', off', rfl, hb', c0'⟩ := H'.out.at_ htj'
        have e0 := (hBl.out.cell (p := ⟨b, off + j, none⟩) hb).trans c0
        have e0' := (hBl.out.cell (p := ⟨b', off' + j, none⟩) hb').trans c0'
        have hB2 := Lib.hid (fun q => (show Below W.heap.size W (wr.drewN q) from ⟨hBl.out.os, hBl.out.tape, hBl.out.output, hBl.out.size, hBl.out.block⟩))
        clear c0 c0'
        by_cases e : t = t'
        · have HTN := Lib.hid (takeS_same hT.out htj (e ▸ htj'))
          subst e
          clear htj htj' hT
          go_wp2_with fail
          go_quiet (fail)
          go_wp2_with fail
          go_roundw
          case rel => exact ⟨j + 1, by omega, by go_num, HTN.out, hB2.out _⟩
          case measure => simp [intOf]; omega
        · have hr : decide (l = l') = false := decide_eq_false (fun h => e (by have := htj; rw [h, htj'] at this; exact (Option.some.inj this).symm))
          have HR := Lib.hid hr
          have hz : (t == t') = false := by simpa using e
          clear htj htj' hT hr
          go_wp2_with fail
          go_quiet (fail)
          go_wp2_with fail
          go_ret
          exact ⟨by rw [HR.out]; rfl, hB2.out _⟩
      · obtain rfl : j = m := by omega
        have HR := Lib.hid (show decide (l = l') = true from decide_eq_true (by
          have h := hT.out
          rw [List.take_of_length_le (by rw [HM.out]; omega), List.take_of_length_le (by rw [HM1.out]; omega)] at h
          exact h))
        go_wp2_with fail
        go_ret
        exact ⟨by rw [HR.out]; rfl, hBl.out⟩
  · have hF : decide (l = l') = false := decide_eq_false (fun e : l = l' => hlen (by rw [e]))
    rw [hF]
    have hg : ((l.length : Int) != (l'.length : Int)) = true := by simp; omega
    clear hF h h'
    go_enter Tryz.func27, Tryz.ntmps27
    go_wp2_with fail
    go_ret
    exact ⟨rfl, Below.refl _ _⟩
set_option maxRecDepth 100000 in
set_option maxHeartbeats 4000000 in
theorem sameTexts_any (W : World) (A A' : Option Addr) (l l' : List PS.Bs) (c c' : Nat) (hm : l.length ≤ 100000) (h : SRow W A l) (h' : SRow W A' l') :
    Calls Tryz.prog 30 #[.slice A l.length c, .slice A' l'.length c'] W fun e w' => e = .returned (.bool (decide (l = l'))) ∧ Below W.heap.size W w' := by
  by_cases hlen : l.length = l'.length
  · obtain ⟨m, hm0⟩ : ∃ m, l.length = m := ⟨_, rfl⟩
    have hm1 : l'.length = m := by omega
    rw [hm0] at hm ⊢
    rw [hm1]
    have HM := Lib.hid hm0
    have HM1 := Lib.hid hm1
    have H := Lib.hid h
    have H' := Lib.hid h'
    clear hm0 hm1 h h' hlen
    go_enter Tryz.func30, Tryz.ntmps30
    go_wp2_with fail
    go_loopw [5] (fun i V => ∃ j : Nat, j ≤ m ∧ i = .int .i64 (j : Int) ∧ Hid (l.take j = l'.take j) ∧ Hid (Below W.heap.size W V)) (fun i _ => m - (intOf i).toNat)
    case atStart => exact ⟨0, by omega, rfl, (show l.take 0 = l'.take 0 from rfl), Below.refl _ _⟩
    case round =>
      obtain ⟨j, hj, rfl, hT, hBl⟩ := hrel
      by_cases hjm : j < m
      · obtain ⟨t, htj⟩ : ∃ t, l[j]? = some t := ⟨l[j]'(by rw [HM.out]; exact hjm), List.getElem?_eq_getElem (by rw [HM.out]; exact hjm)⟩
        obtain ⟨t', htj'⟩ : ∃ t, l'[j]? = some t := ⟨l'[j]'(by rw [HM1.out]; exact hjm), List.getElem?_eq_getElem (by rw [HM1.out]; exact hjm)⟩
        obtain ⟨b, off, rfl, hb, c0⟩ := H.out.at_ htj
        obtain ⟨b', off', rfl, hb', c0'⟩ := H'.out.at_ htj'
        have e0 := (hBl.out.cell (p := ⟨b, off + j, none⟩) hb).trans c0
        have e0' := (hBl.out.cell (p := ⟨b', off' + j, none⟩) hb').trans c0'
        have hB2 := Lib.hid (fun q => (show Below W.heap.size W (wr.drewN q) from ⟨hBl.out.os, hBl.out.tape, hBl.out.output, hBl.out.size, hBl.out.block⟩))
        clear c0 c0'
        by_cases e : t = t'
        · have HTN := Lib.hid (takeS_same hT.out htj (e ▸ htj'))
          subst e
          clear htj htj' hT
          go_wp2_with fail
          go_quiet (fail)
          go_wp2_with fail
          go_roundw
          case rel => exact ⟨j + 1, by omega, by go_num, HTN.out, hB2.out _⟩
          case measure => simp [intOf]; omega
        · have hr : decide (l = l') = false := decide_eq_false (fun h => e (by have := htj; rw [h, htj'] at this; exact (Option.some.inj this).symm))
          have HR := Lib.hid hr
          have hz : (t == t') = false := by simpa using e
          clear htj htj' hT hr
          go_wp2_with fail
          go_quiet (fail)
          go_wp2_with fail
          go_ret
          exact ⟨by rw [HR.out]; rfl, hB2.out _⟩
      · obtain rfl : j = m := by omega
        have HR := Lib.hid (show decide (l = l') = true from decide_eq_true (by
          have h := hT.out
          rw [List.take_of_length_le (by rw [HM.out]; omega), List.take_of_length_le (by rw [HM1.out]; omega)] at h
          exact h))
        go_wp2_with fail
        go_ret
        exact ⟨by rw [HR.out]; rfl, hBl.out⟩
  · have hF : decide (l = l') = false := decide_eq_false (fun e : l = l' => hlen (by rw [e]))
    rw [hF]
    have hg : ((l.length : Int) != (l'.length : Int)) = true := by simp; omega
    clear hF h h'
    go_enter Tryz.func30, Tryz.ntmps30
    go_wp2_with fail
    go_ret
    exact ⟨rfl, Below.refl _ _⟩
end Go.Proofs.YtlfpaemfhanpiaaGreatDoor

namespace Go.Proofs.YtlfpaemfhanpiaaGreatDoor
open Go Go.RowKit Go.Proofs
attribute [local go_sem] Oper.semAt_some field0 field1 field2 field3

/-- The tree lies in blocks of S. -/
def Nf (S : Nat → Prop) (w : World) (t : TY.Nd) (v : Value) : Prop := ∀ V : World, (∀ c, S c → c < w.heap.size → V.heap[c]? = w.heap[c]?) → ∀ hi, w.heap.size ≤ hi → NdV V hi t v
section
variable {S T : Nat → Prop} {w w' : World} {t t0 t1 t2 : TY.Nd} {v : Value}
theorem Nf.keep (h : Nf S w t v) (hk : ∀ c, S c → c < w.heap.size → w'.heap[c]? = w.heap[c]?) (hs : w.heap.size ≤ w'.heap.size) : Nf S w' t v := fun V hV hi hh => h V (fun c h1 h2 => (hV c h1 (by omega)).trans (hk c h1 h2)) hi (by omega)
theorem Nf.mono (h : Nf S w t v) (hT : ∀ c, c < w.heap.size → S c → T c) : Nf T w t v := fun V hV hi hh => h V (fun c h1 h2 => hV c (hT c h2 h1) h2) hi hh
theorem Nf.nw {B : Nat} (h : Nf S w t v) (hB : ∀ c, c < w.heap.size → S c → B ≤ c) : Nw B w t v := fun V hV hi hh => h V (fun c h1 h2 => hV c (hB c h2 h1) h2) hi hh
theorem Nw.nx {B : Nat} (h : Nw B w t v) : Nf (B ≤ ·) w t v := h
theorem Nf.shape (h : Nf S w t v) : ∃ (k n : Int) (s : ByteArray) (A : Option Addr) (m c : Nat), v = ndv k n s (.slice A m c) := by
  have := h w (fun _ _ _ => rfl) _ (Nat.le_refl _)
  obtain ⟨k, n, s, l⟩ := t
  obtain ⟨A, c, _, e, _⟩ := this.open_
  exact ⟨k, n, s, A, _, c, e⟩
theorem Nf.leaf (S : Nat → Prop) (w : World) (k n : Int) (s : ByteArray) (hs : s.size ≤ 1000) : Nf S w (.mk k n s []) (ndv k n s (.slice none 0 0)) := fun V _ hi _ => NdV.leaf V hi k n s hs
theorem Nf.one {k n : Int} {s : ByteArray} {k0 n0 : Int} {s0 : ByteArray} {K0 : Value} {g : Nat} (hg : w.heap[g]? = some (.cells #[.int .i64 k0, .int .i64 n0, .string s0, K0] 33 (0, 0))) (hS : S g) (hs : s.size ≤ 1000) (h : Nf S w t0 (ndv k0 n0 s0 K0)) : Nf S w (.mk k n s [t0]) (ndv k n s (.slice (some ⟨g, 0, none⟩) 1 1)) := fun V hV hi hh =>
  NdV.one ((hV g hS (heap_lt hg)).trans hg) (by have := heap_lt hg; omega) hs (h V hV hi hh)
theorem Nf.two {k n : Int} {s : ByteArray} {k0 n0 k1 n1 : Int} {s0 s1 : ByteArray} {K0 K1 : Value} {g : Nat} (hg : w.heap[g]? = some (.cells #[.int .i64 k0, .int .i64 n0, .string s0, K0, .int .i64 k1, .int .i64 n1, .string s1, K1] 33 (0, 0))) (hS : S g) (hs : s.size ≤ 1000) (h : Nf S w t0 (ndv k0 n0 s0 K0)) (h' : Nf S w t1 (ndv k1 n1 s1 K1)) : Nf S w (.mk k n s [t0, t1]) (ndv k n s (.slice (some ⟨g, 0, none⟩) 2 2)) := fun V hV hi hh =>
  NdV.two ((hV g hS (heap_lt hg)).trans hg) (by have := heap_lt hg; omega) hs (h V hV hi hh) (h' V hV hi hh)
end
/-- A node's box, all of whose cells are stored. -/
theorem nd_set {V : World} {b : Nat} {a0 a1 a2 a3 : Value} {t : TypeId} (h : V.heap[b]? = some (.cells #[a0, a1, a2, a3] t (0, 0))) (c0 c1 c2 c3 : Value) {U : World} (hU : (((V.setCell ⟨b, 0, none⟩ c0).setCell ⟨b, 1, none⟩ c1).setCell ⟨b, 2, none⟩ c2).setCell ⟨b, 3, none⟩ c3 = U) :
    U.heap[b]? = some (.cells #[c0, c1, c2, c3] t (0, 0)) ∧ (∀ x, x ≠ b → U.heap[x]? = V.heap[x]?) ∧ U.heap.size = V.heap.size ∧ Chg (· = b) V U := by
  subst hU
  refine ⟨tok_set h _ _ _ _, fun x hx => (Below.heap_setCell _ _ _ _ hx).trans ((Below.heap_setCell _ _ _ _ hx).trans ((Below.heap_setCell _ _ _ _ hx).trans (Below.heap_setCell _ _ _ _ hx))), by simp [World.setCell], ?_⟩
  exact ((((Chg.refl (· = b) V).setCell (p := ⟨b, 0, none⟩) (fun _ => rfl) _).setCell (p := ⟨b, 1, none⟩) (fun _ => rfl) _).setCell (p := ⟨b, 2, none⟩) (fun _ => rfl) _).setCell (p := ⟨b, 3, none⟩) (fun _ => rfl) _
/-- Objects laid one after another. -/
def layn (W : World) (os : List Obj) : World := os.foldl World.alloc W
theorem layn_size : ∀ (os : List Obj) (W : World), (layn W os).heap.size = W.heap.size + os.length
  | [], W => rfl
  | o :: t, W => by
    show (layn (W.alloc o) t).heap.size = _
    rw [layn_size t, World.size_alloc, List.length_cons]
    omega
theorem layn_below : ∀ (os : List Obj) (W : World), Below W.heap.size W (layn W os)
  | [], W => Below.refl _ _
  | o :: t, W => ((Below.refl W.heap.size W).alloc (Nat.le_refl _) o).trans ((layn_below t (W.alloc o)).mono (by rw [World.size_alloc]; omega))
theorem layn_at : ∀ (os : List Obj) (W : World) (i : Nat) {C : Array Value} {t : TypeId}, os[i]? = some (.cells C t (0, 0)) → (layn W os).heap[W.heap.size + i]? = some (.cells C t (0, 0))
  | [], W, i, C, t, h => by simp at h
  | o :: os, W, 0, C, t, h => by
    injection h with h
    subst h
    exact ((layn_below os (W.alloc _)).block W.heap.size (by rw [World.size_alloc]; omega)).trans (World.alloc_heap_new W _)
  | o :: os, W, i + 1, C, t, h => by
    have := layn_at os (W.alloc o) i (C := C) (t := t) h
    rw [World.size_alloc] at this
    rw [show W.heap.size + (i + 1) = W.heap.size + 1 + i by omega]
    exact this
set_option maxRecDepth 100000 in
set_option maxHeartbeats 4000000 in
theorem binary_any (V : World) (s : ByteArray) (k0 n0 : Int) (s0 : ByteArray) (A0 : Option Addr) (m0 c0 : Nat) (k1 n1 : Int) (s1 : ByteArray) (A1 : Option Addr) (m1 c1 : Nat) :
    Calls Tryz.prog 126 #[.string s, .agg #[.int .i64 k0, .int .i64 n0, .string s0, .slice A0 m0 c0], .agg #[.int .i64 k1, .int .i64 n1, .string s1, .slice A1 m1 c1]] V fun e w' => ∃ g, e = .returned (.agg #[.int .i64 18, .int .i64 0, .string s, .slice (some ⟨g, 0, none⟩) 2 2]) ∧ V.heap.size ≤ g ∧
      w'.heap[g]? = some (.cells #[.int .i64 k0, .int .i64 n0, .string s0, .slice A0 m0 c0, .int .i64 k1, .int .i64 n1, .string s1, .slice A1 m1 c1] 33 (0, 0)) ∧ Below V.heap.size V w' := by
  go_enter Tryz.func126, Tryz.ntmps126
  go_wp2_with fail
  have hl := layn_at [.cells #[.int .i64 k0, .int .i64 n0, .string s0, .slice A0 m0 c0] 33, .cells #[.int .i64 k1, .int .i64 n1, .string s1, .slice A1 m1 c1] 33, .cells #[.int .i64 18, .int .i64 0, .string s, .slice (some ⟨V.heap.size + 1 + 1 + 1, 0, none⟩) 2 2] 33, .cells #[.int .i64 k0, .int .i64 n0, .string s0, .slice A0 m0 c0, .int .i64 k1, .int .i64 n1, .string s1, .slice A1 m1 c1] 33] V
  refine bodyPost_ret (ret_N rfl _ rfl (hl 2 rfl)) rfl ⟨V.heap.size + 1 + 1 + 1, rfl, by omega, hl 3 rfl, layn_below [_, _, _, _] V⟩
end Go.Proofs.YtlfpaemfhanpiaaGreatDoor

namespace Go.Proofs.YtlfpaemfhanpiaaGreatDoor
open Go Go.RowKit Go.Proofs
attribute [local go_sem] Oper.semAt_some field0 field1 field2 field3

/-- Function F parses as M does, at the level lv. -/
def PFn (F : FuncId) (args : Array Value) (K : Pc) (lv : Nat) (M : List LX.Tok → PS.PR TY.Nd) : Prop := ∀ (V : World) (ts : List LX.Tok), lv ≤ 20 → PAt V K ts lv → M ts ≠ .out → Calls Tryz.prog F args V (PRes V K lv (M ts))
abbrev nd0 : Array Value := #[.int .i64 0, .int .i64 0, .string ⟨#[]⟩, .slice none 0 0]
theorem PAt.set4 {w U : World} {K : Pc} {r : List LX.Tok} {lv b : Nat} (hP : PAt w K r lv) (hg : K.g ≠ b) (ht : K.tb ≠ b) (hmb : K.mb ≠ b) (hk : ∀ x, x ≠ b → x < w.heap.size → U.heap[x]? = w.heap[x]?) (hs : w.heap.size ≤ U.heap.size) : PAt U K r lv := by
  have hl := hP.lt
  have hlb := hP.ltb
  have hlm := hP.ltm
  obtain ⟨off, c, h1, h2, h3, h4, h5⟩ := hP
  exact ⟨off, c, (hk _ hg hl).trans h1, h2, h3, h4.keep (hk _ ht hlb) (hk _ hmb hlm) hs, h5⟩
/-- The end: the result's box is stored, and objects may have been laid behind. -/
theorem pres_fin {V w U : World} {K : Pc} {r : List LX.Tok} {lv b : Nat} {S : Nat → Prop} {t : TY.Nd} {k n : Int} {s : ByteArray} {Kv : Value} {a0 a1 a2 a3 : Value} (hC : Chg (· = K.g) V w) (hbV : V.heap.size ≤ b) (hP : PAt w K r lv) (hb : w.heap[b]? = some (.cells #[a0, a1, a2, a3] 33 (0, 0))) (hN : Nf S w t (ndv k n s Kv)) (hS : ¬ S b) (hSV : ∀ c, S c → V.heap.size ≤ c) (hg : K.g < V.heap.size) (ht : K.tb < V.heap.size) (hmb : K.mb < V.heap.size) (os : List Obj)
    (hU : layn ((((w.setCell ⟨b, 0, none⟩ (.int .i64 k)).setCell ⟨b, 1, none⟩ (.int .i64 n)).setCell ⟨b, 2, none⟩ (.string s)).setCell ⟨b, 3, none⟩ Kv) os = U) :
    U.heap[b]? = some (.cells #[.int .i64 k, .int .i64 n, .string s, Kv] 33 (0, 0)) ∧ PRes V K lv (.ok t r) (.returned (.agg #[.int .i64 k, .int .i64 n, .string s, Kv])) U := by
  obtain ⟨W1, hW1⟩ : ∃ W, (((w.setCell ⟨b, 0, none⟩ (.int .i64 k)).setCell ⟨b, 1, none⟩ (.int .i64 n)).setCell ⟨b, 2, none⟩ (.string s)).setCell ⟨b, 3, none⟩ Kv = W := ⟨_, rfl⟩
  obtain ⟨e1, e2, e3, e4⟩ := nd_set hb _ _ _ _ hW1
  rw [hW1] at hU
  have hbl := layn_below os W1
  rw [hU] at hbl
  have hk : ∀ x, x ≠ b → x < w.heap.size → U.heap[x]? = w.heap[x]? := fun x hx hl => (hbl.block x (by omega)).trans (e2 x hx)
  have hsz : w.heap.size ≤ U.heap.size := by have := hbl.size; omega
  have hcs := hC.size
  refine ⟨(hbl.block b (heap_lt e1)).trans e1, (hC.trans e4 (fun x hx e => absurd hx (by omega))).new hbl, _, rfl, ?_, hP.set4 (by omega) (by omega) (by omega) hk hsz⟩
  exact (hN.keep (fun c hc hl => hk c (fun e => hS (e ▸ hc)) hl) hsz).nw (fun c _ hc => hSV c hc)
theorem PAt.level {V W : World} {K : Pc} {ts : List LX.Tok} {lv : Nat} (lv' : Nat) (h : PAt V K ts lv) (hW : V.setCell ⟨K.g, 1, none⟩ (.int .i64 (lv' : Int)) = W) : PAt W K ts lv' ∧ Chg (· = K.g) V W := by
  subst hW
  obtain ⟨off, c, h1, h2, h3, h4, h5⟩ := h
  exact ⟨⟨off, c, row_set h1 _, h2, h3, h4.keep (Below.heap_setCell _ _ _ _ h5.1) (Below.heap_setCell _ _ _ _ h5.2) (by simp [World.setCell]), h5⟩, (Chg.refl (· = K.g) V).setCell (p := ⟨K.g, 1, none⟩) (fun _ => rfl) _⟩
theorem PAt.cell1 {V : World} {K : Pc} {ts : List LX.Tok} {lv : Nat} (h : PAt V K ts lv) : V.cell? ⟨K.g, 1, none⟩ = some (.int .i64 (lv : Int)) ∧ V.frozen? ⟨K.g, 1, none⟩ = false := by
  obtain ⟨off, c, h1, _⟩ := h
  exact ⟨cell_of_row V _ 1 _ _ (0, 0) h1, by simp [World.frozen?, h1]⟩
set_option maxRecDepth 100000 in
set_option maxHeartbeats 4000000 in
theorem deeper_any {F : FuncId} (eg : ∀ args w, (callFunc F args).run Tryz.prog w = .ok (.enter F args) w) (K : Pc) (lv : Nat) (s : PS.Bs) (hs : s ≠ []) (M : List LX.Tok → PS.PR TY.Nd) (hF : PFn F #[.pointer (some ⟨K.g, 0, none⟩)] K (lv + 1) M) :
    PFn 102 #[.pointer (some ⟨K.g, 0, none⟩), .string (PS.bs s), .func (.func F) #[.pointer (some ⟨K.g, 0, none⟩)] #[]] K lv (fun ts => (PS.opn s lv ts).bind fun _ u => M u) := by
  intro V ts hlv h hR
  obtain ⟨t, u, rfl⟩ := h.good.ne
  have hg := h.lt
  have hgb := h.ltb
  have hgm := h.ltm
  have HS := Lib.hid (fun (W : World) (hW : Below V.heap.size V W) => sees_any W K t u lv s (h.keep hW))
  have HN := Lib.hid (fun (W : World) (b : Bool) (hW : Below V.heap.size V W) => need_any W K t u lv b (h.keep hW))
  have B : Below V.heap.size V (V.alloc (.cells nd0 33)) := (Below.refl _ _).alloc (Nat.le_refl _) _
  have BX := Lib.hid (World.alloc_heap_new V (.cells nd0 33))
  have zX : (V.alloc (.cells nd0 33)).heap.size = V.heap.size + 1 := World.size_alloc _ _
  have HH := Lib.hid h
  have HF := Lib.hid hF
  by_cases e : t.text = s
  · have hgu : PS.Good u := h.good.tail (by rw [e]; exact hs)
    have hb : (t.text == s) = true := by rw [beq_iff_eq]; exact e
    rw [hb] at HS
    by_cases el : 20 < lv + 1
    · have hl : (20 : Int) < (lv : Int) + 1 := by omega
      have hlv' : (lv : Int) ≤ 20 := by omega
      simp only [PS.opn, if_pos e, if_pos el, PS.PR.bind_err]
      clear hR h e hF el
      go_enter Tryz.func102, Tryz.ntmps102
      go_wp2_with (first
        | (go_at_call 56; refine (HS.out _ B).mono ?_; clear HS; rintro e w2 ⟨rfl, hb2⟩; have B2 := B.trans (hb2.mono B.size); clear hb2)
        | (go_at_call 59; refine (HN.out _ _ B2).mono ?_; clear HN; rintro e w3 ⟨rfl, hb3⟩; have B3 := B2.trans (hb3.mono B2.size); have P3 := HH.out.keep B3; obtain ⟨c1, f1⟩ := P3.cell1; have L3 := Lib.hid (P3.level (lv + 1) rfl); clear hb3 P3)
        | (go_at_call 83; refine (fail_any _ K t u (lv + 1) 2 L3.out.1).mono ?_; rintro e w5 ⟨rfl, hb5⟩))
      exact ⟨rfl, ((chgB B3).trans L3.out.2 (fun _ _ e => e)).new hb5, rfl⟩
    · have hl : ¬ (20 : Int) < (lv : Int) + 1 := by omega
      have hlv' : (lv : Int) ≤ 20 := by omega
      have hlv2 : lv + 1 ≤ 20 := by omega
      simp only [PS.opn, if_pos e, if_neg el, PS.PR.bind_ok] at hR ⊢
      clear h e hF el
      cases hm : M u with
      | out => exact absurd hm hR
      | err p c =>
        have HM := Lib.hid hm
        clear hm
        go_enter Tryz.func102, Tryz.ntmps102
        go_wp2_with (first
          | (go_at_call 56; refine (HS.out _ B).mono ?_; clear HS; rintro e w2 ⟨rfl, hb2⟩; have B2 := B.trans (hb2.mono B.size); clear hb2)
          | (go_at_call 59; refine (HN.out _ _ B2).mono ?_; clear HN; rintro e w3 ⟨rfl, hb3⟩; have B3 := B2.trans (hb3.mono B2.size); have P3 := HH.out.keep B3; obtain ⟨c1, f1⟩ := P3.cell1; have L3 := Lib.hid (P3.level (lv + 1) rfl); clear hb3 P3)
          | (go_at_call 79; refine (take_any _ K t u (lv + 1) L3.out.1 hgu).mono ?_; rintro e w5 ⟨rfl, hP5, hC5⟩; have C5 := Lib.hid (((chgB B3).trans L3.out.2 (fun _ _ e => e)).trans hC5 (fun _ _ e => e)); have P5 := Lib.hid hP5; clear hC5 hP5)
          | (refine (HF.out _ _ hlv2 P5.out hR).mono ?_; rw [HM.out]; rintro e w6 ⟨hC6, rfl⟩))
        exact ⟨rfl, C5.out.trans hC6 (fun _ _ e => e), rfl⟩
      | ok n r =>
        have HM := Lib.hid hm
        clear hm
        go_enter Tryz.func102, Tryz.ntmps102
        go_wp2_with (first
          | (go_at_call 56; refine (HS.out _ B).mono ?_; clear HS; rintro e w2 ⟨rfl, hb2⟩; have Q2 := Lib.hid ((hb2.block V.heap.size (by omega)).trans BX.out); have z2 := hb2.size; have B2 := B.trans (hb2.mono B.size); clear hb2)
          | (go_at_call 59; refine (HN.out _ _ B2).mono ?_; clear HN; rintro e w3 ⟨rfl, hb3⟩; have Q3 := Lib.hid ((hb3.block V.heap.size (by omega)).trans Q2.out); have z3 := hb3.size; have B3 := B2.trans (hb3.mono B2.size); have P3 := HH.out.keep B3; obtain ⟨c1, f1⟩ := P3.cell1; have L3 := Lib.hid (P3.level (lv + 1) rfl); clear hb3 P3)
          | (go_at_call 79; refine (take_any _ K t u (lv + 1) L3.out.1 hgu).mono ?_; rintro e w5 ⟨rfl, hP5, hC5⟩; have L5 := L3.out.2.trans hC5 (fun _ _ e => e); have z5 := L5.size; have Q5 := Lib.hid ((L5.block V.heap.size (by omega) (by omega)).trans Q3.out); have C5 := Lib.hid ((chgB B3).trans L5 (fun _ _ e => e)); have P5 := Lib.hid hP5; clear hC5 hP5 L5)
          | (refine (HF.out _ _ hlv2 P5.out hR).mono ?_; rw [HM.out]; rintro e w6 ⟨hC6, v, rfl, hv, hP6⟩
             obtain ⟨k6, n6, s6, A6, m6, c6, rfl⟩ := hv.shape
             have z6 := hC6.size
             have Q6 := Lib.hid ((hC6.block V.heap.size (by omega) (by omega)).trans Q5.out)
             have C6 := Lib.hid (C5.out.trans hC6 (fun _ _ e => e))
             obtain ⟨d1, g1⟩ := hP6.cell1
             obtain ⟨q0, q1, q2, q3, qf⟩ := tok_cells Q6.out
             have r0 := qf 0
             have r1 := qf 1
             have r2 := qf 2
             have r3 := qf 3
             have hgz : K.g < w6.heap.size := by omega
             have hvz : V.heap.size < w6.heap.size := by omega
             have hn1 : ¬ V.heap.size = K.g := by omega
             have hn2 : ¬ K.g = V.heap.size := by omega
             have hw1 : IntKind.i64.wrap ((lv : Int) + 1 - 1) = (lv : Int) := by rw [show (lv : Int) + 1 - 1 = (lv : Int) by omega]; exact IntWalk.i64_in _ (by omega)
             have L6 := Lib.hid (hP6.level lv rfl)
             have V6 := Lib.hid hv
             clear hv hC6 hP6 qf))
        have f := pres_fin (V := V) (b := V.heap.size) (S := (w5.heap.size ≤ ·)) (C6.out.trans L6.out.2 (fun _ _ e => e)) (Nat.le_refl _) L6.out.1 ((Below.heap_setCell _ _ _ _ hn1).trans Q6.out) (V6.out.nx.keep (fun c h1 h2 => Below.heap_setCell _ _ _ _ (show c ≠ K.g by omega)) (by simp [World.setCell])) (by omega) (fun c hc => by omega) hg hgb hgm [.cells #[.int .i64 k6, .int .i64 n6, .string s6, .slice A6 m6 c6] 33] rfl
        refine bodyPost_ret (ret_N rfl _ rfl f.1) rfl f.2
  · have hb : (t.text == s) = false := by rw [beq_eq_false_iff_ne]; exact e
    rw [hb] at HS
    simp only [PS.opn, if_neg e, PS.PR.bind_err]
    clear hR h e hF
    go_enter Tryz.func102, Tryz.ntmps102
    go_wp2_with (first
      | (go_at_call 56; refine (HS.out _ B).mono ?_; clear HS; rintro e w2 ⟨rfl, hb2⟩; have B2 := B.trans (hb2.mono B.size); clear hb2)
      | (go_at_call 59; refine (HN.out _ _ B2).mono ?_; clear HN; rintro e w3 ⟨rfl, hb3⟩; have B3 := B2.trans (hb3.mono B2.size); clear hb3))
    exact ⟨rfl, chgB B3, rfl⟩
end Go.Proofs.YtlfpaemfhanpiaaGreatDoor
