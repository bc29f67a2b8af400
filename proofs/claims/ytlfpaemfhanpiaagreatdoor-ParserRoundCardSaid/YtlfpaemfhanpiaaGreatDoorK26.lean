/-
  The parser's primary; all expressions. Conditions: the parser stands.
  The parser's expressions, at every fuel. Conditions: the parser stands.
  Local variables of the parser's functions that hold trees; must and number by their results. No function of the program beyond those.
  The parser's statements of one form: timer, simple, reply, fault, send. Conditions: the parser stands; expr parses.
  The parser's assignment. Conditions: the parser stands; expr parses.
-/
import Derived.Test.YtlfpaemfhanpiaaGreatDoorK25

namespace Go.Proofs.YtlfpaemfhanpiaaGreatDoor
open Go Go.RowKit Go.Proofs
attribute [local go_sem] Oper.semAt_some field0 field1 field2 field3

theorem bi_len {s : PS.Bs} (h : PS.isBi s = true) : s.toArray.size ≤ 1000 := by
  simp only [PS.isBi, PS.bins, List.mem_cons, List.not_mem_nil, or_false, decide_eq_true_eq] at h
  rcases h with rfl | rfl | rfl | rfl | rfl | rfl | rfl | rfl | rfl <;> decide
theorem name_len {t : LX.Tok} {u : List LX.Tok} (h : PS.Good (t :: u)) (hn : PS.isName t = true) : t.text.toArray.size ≤ 1000 := by
  simp only [PS.isName, Bool.and_eq_true, decide_eq_true_eq] at hn
  cases h with
  | fin _ h _ _ => omega
  | cons _ _ h _ =>
    rcases h.1 with ⟨_, h2, _⟩ | ⟨h1, _⟩ | ⟨h1, _⟩
    · simp; omega
    · omega
    · omega
set_option maxRecDepth 100000 in
set_option maxHeartbeats 16000000 in
theorem primary_any (K : Pc) (lv : Nat) (g : PS.Rec) (hF : PFn 77 #[.pointer (some ⟨K.g, 0, none⟩)] K (lv + 1) (g (.ex 1) (lv + 1))) :
    PFn 168 #[.pointer (some ⟨K.g, 0, none⟩)] K lv (PS.step g (.ex 8) lv) := by
  intro V ts hlv h hR
  have hPar : PFn 169 #[.pointer (some ⟨K.g, 0, none⟩)] K lv (PS.par g lv) := par_any K lv _ hF
  have F1 := Lib.hid (Fr.begin h)
  obtain ⟨t, u, rfl⟩ := h.good.ne
  obtain ⟨R, hRR⟩ : ∃ R, PS.step g (.ex 8) lv (t :: u) = R := ⟨_, rfl⟩
  rw [hRR] at hR ⊢
  have hRR : PS.prim g lv (t :: u) = R := hRR
  have hgd := h.good
  clear h hF
  by_cases hk2 : t.kind = 2
  · have hk : ((t.kind : Int) == 2) = true := by rw [hk2]; rfl
    have hgu := hgd.tail_k (show t.kind ≠ 0 by omega)
    rw [PS.prim, if_pos hk2] at hRR
    obtain rfl := hRR
    clear hR hk2 hPar
    go_enter Tryz.func168, Tryz.ntmps168
    go_wp2_with (first
      | (go_at_call 60; refine (next_any _ K t u lv F1.out.pat).mono ?_; rintro e w2 ⟨rfl, hb2⟩; have F2 := Lib.hid (F1.out.below hb2); have F3 := Lib.hid (F2.out.alloc (.cells #[.int .i64 (t.kind : Int), .int .i64 (t.pos : Int), .string (PS.bs t.text), .int .i64 (t.num : Int)] 86)); clear hb2)
      | (go_at_call 79; refine (take_any _ K t u lv F3.out.pat hgu).mono ?_; rintro e w4 ⟨rfl, hP, hC⟩; have F4 := Lib.hid (F3.out.step hC hP); obtain ⟨q0, q1, q2, q3, r0, r1, r2, r3⟩ := F4.out.cells; obtain ⟨i1, i2, i3, i4⟩ := F4.out.nums; clear hC hP))
    have f := F4.out.fin (x := V.heap.size) (Nf.leaf _ _ (12) ((t.num : Int)) (⟨#[]⟩) (by decide)) [] rfl
    refine bodyPost_ret (ret_N rfl _ rfl f.1) rfl f.2
  have hk : ((t.kind : Int) == 2) = false := by rw [beq_eq_false_iff_ne]; omega
  rw [PS.prim, if_neg hk2] at hRR
  by_cases h1 : t.text = PS.wTrue
  · have e1 : (t.text == [116, 114, 117, 101]) = true := by rw [h1]; rfl
    have hgu := hgd.tail (by rw [h1]; decide)
    rw [if_pos h1] at hRR
    obtain rfl := hRR
    clear hR hk2 h1 hPar
    go_enter Tryz.func168, Tryz.ntmps168
    go_wp2_with (first
      | (go_at_call 60; refine (next_any _ K t u lv F1.out.pat).mono ?_; rintro e w2 ⟨rfl, hb2⟩; have F2 := Lib.hid (F1.out.below hb2); have F3 := Lib.hid (F2.out.alloc (.cells #[.int .i64 (t.kind : Int), .int .i64 (t.pos : Int), .string (PS.bs t.text), .int .i64 (t.num : Int)] 86)); clear hb2)
      | (go_at_call 79; refine (take_any _ K t u lv F3.out.pat hgu).mono ?_; rintro e w4 ⟨rfl, hP, hC⟩; have F4 := Lib.hid (F3.out.step hC hP); obtain ⟨q0, q1, q2, q3, r0, r1, r2, r3⟩ := F4.out.cells; obtain ⟨i1, i2, i3, i4⟩ := F4.out.nums; clear hC hP))
    have f := F4.out.fin (x := V.heap.size) (Nf.leaf _ _ (13) (1) (⟨#[]⟩) (by decide)) [] rfl
    refine bodyPost_ret (ret_N rfl _ rfl f.1) rfl f.2
  have e1 : (t.text == [116, 114, 117, 101]) = false := by rw [beq_eq_false_iff_ne]; exact h1
  rw [if_neg h1] at hRR
  by_cases h2 : t.text = PS.wFalse
  · have e2 : (t.text == [102, 97, 108, 115, 101]) = true := by rw [h2]; rfl
    have hgu := hgd.tail (by rw [h2]; decide)
    rw [if_pos h2] at hRR
    obtain rfl := hRR
    clear hR hk2 h1 h2 hPar
    go_enter Tryz.func168, Tryz.ntmps168
    go_wp2_with (first
      | (go_at_call 60; refine (next_any _ K t u lv F1.out.pat).mono ?_; rintro e w2 ⟨rfl, hb2⟩; have F2 := Lib.hid (F1.out.below hb2); have F3 := Lib.hid (F2.out.alloc (.cells #[.int .i64 (t.kind : Int), .int .i64 (t.pos : Int), .string (PS.bs t.text), .int .i64 (t.num : Int)] 86)); clear hb2)
      | (go_at_call 79; refine (take_any _ K t u lv F3.out.pat hgu).mono ?_; rintro e w4 ⟨rfl, hP, hC⟩; have F4 := Lib.hid (F3.out.step hC hP); obtain ⟨q0, q1, q2, q3, r0, r1, r2, r3⟩ := F4.out.cells; obtain ⟨i1, i2, i3, i4⟩ := F4.out.nums; clear hC hP))
    have f := F4.out.fin (x := V.heap.size) (Nf.leaf _ _ (13) (0) (⟨#[]⟩) (by decide)) [] rfl
    refine bodyPost_ret (ret_N rfl _ rfl f.1) rfl f.2
  have e2 : (t.text == [102, 97, 108, 115, 101]) = false := by rw [beq_eq_false_iff_ne]; exact h2
  rw [if_neg h2] at hRR
  by_cases h3 : t.text = PS.wDraw
  · have e3 : (t.text == [100, 114, 97, 119]) = true := by rw [h3]; rfl
    have hgu := hgd.tail (by rw [h3]; decide)
    rw [if_pos h3] at hRR
    cases hm : PS.par g lv u with
    | out => rw [hm] at hRR; exact absurd hRR.symm hR
    | err q d =>
      rw [hm] at hRR
      have hRR : PS.PR.err q d = R := hRR
      obtain rfl := hRR
      have HD := Lib.hid (hPar.at_ hm hlv err_ne)
      clear hR hk2 h1 h2 h3 hPar hm
      go_enter Tryz.func168, Tryz.ntmps168
      go_wp2_with (first
        | (go_at_call 60; refine (next_any _ K t u lv F1.out.pat).mono ?_; rintro e w2 ⟨rfl, hb2⟩; have F2 := Lib.hid (F1.out.below hb2); have F3 := Lib.hid (F2.out.alloc (.cells #[.int .i64 (t.kind : Int), .int .i64 (t.pos : Int), .string (PS.bs t.text), .int .i64 (t.num : Int)] 86)); clear hb2)
        | (go_at_call 79; refine (take_any _ K t u lv F3.out.pat hgu).mono ?_; rintro e w4 ⟨rfl, hP, hC⟩; have F4 := Lib.hid (F3.out.step hC hP); obtain ⟨q0, q1, q2, q3, r0, r1, r2, r3⟩ := F4.out.cells; obtain ⟨i1, i2, i3, i4⟩ := F4.out.nums; clear hC hP)
        | (go_at_call 169; refine (HD.out _ F4.out.pat).mono ?_; clear HD; rintro e w9 ⟨hC, rfl⟩))
      exact ⟨rfl, F4.out.chg.trans hC (fun _ _ e => e), rfl⟩
    | ok x r =>
      rw [hm] at hRR
      have hRR : PS.PR.ok (PS.nDraw x) r = R := hRR
      obtain rfl := hRR
      have HD := Lib.hid (hPar.at_ hm hlv ok_ne)
      clear hR hk2 h1 h2 h3 hPar hm
      go_enter Tryz.func168, Tryz.ntmps168
      go_wp2_with (first
        | (go_at_call 60; refine (next_any _ K t u lv F1.out.pat).mono ?_; rintro e w2 ⟨rfl, hb2⟩; have F2 := Lib.hid (F1.out.below hb2); have F3 := Lib.hid (F2.out.alloc (.cells #[.int .i64 (t.kind : Int), .int .i64 (t.pos : Int), .string (PS.bs t.text), .int .i64 (t.num : Int)] 86)); clear hb2)
        | (go_at_call 79; refine (take_any _ K t u lv F3.out.pat hgu).mono ?_; rintro e w4 ⟨rfl, hP, hC⟩; have F4 := Lib.hid (F3.out.step hC hP); obtain ⟨q0, q1, q2, q3, r0, r1, r2, r3⟩ := F4.out.cells; obtain ⟨i1, i2, i3, i4⟩ := F4.out.nums; clear hC hP)
        | (go_at_call 169; refine (HD.out _ F4.out.pat).mono ?_; clear HD; rintro e w5 ⟨hC, v, rfl, hv, hP⟩; obtain ⟨k2, n2, s2, A2, m2, c2, rfl⟩ := hv.shape; have F5 := Lib.hid (F4.out.step hC hP); have V5 := Lib.hid (hv.sx (x := V.heap.size) F4.out.lt (.inl F4.out.lt)); obtain ⟨q0, q1, q2, q3, r0, r1, r2, r3⟩ := F5.out.cells; obtain ⟨i1, i2, i3, i4⟩ := F5.out.nums; clear hv hC hP))
      have hl := F5.out.lt
      have f := F5.out.fin_new (.cells #[.int .i64 k2, .int .i64 n2, .string s2, .slice A2 m2 c2] 33) (Nf.one (k := 16) (n := 0) (s := ⟨#[]⟩) (World.alloc_heap_new w5 _) ⟨hl, by omega⟩ (by decide) (V5.out.below ((Below.refl _ _).alloc (Nat.le_refl _) _))) rfl
      refine bodyPost_ret (ret_N rfl _ rfl f.1) rfl f.2
  have e3 : (t.text == [100, 114, 97, 119]) = false := by rw [beq_eq_false_iff_ne]; exact h3
  rw [if_neg h3] at hRR
  have HB := Lib.hid (fun W => isBuiltIn_any W t.text)
  by_cases h4 : PS.isBi t.text = true
  · have hgu := PS.isBi_text hgd h4
    have hsz := bi_len h4
    rw [if_pos h4] at hRR
    obtain rfl := hRR
    rw [h4] at HB
    clear hR hk2 h1 h2 h3 hPar h4
    go_enter Tryz.func168, Tryz.ntmps168
    go_wp2_with (first
      | (go_at_call 60; refine (next_any _ K t u lv F1.out.pat).mono ?_; rintro e w2 ⟨rfl, hb2⟩; have F2 := Lib.hid (F1.out.below hb2); have F3 := Lib.hid (F2.out.alloc (.cells #[.int .i64 (t.kind : Int), .int .i64 (t.pos : Int), .string (PS.bs t.text), .int .i64 (t.num : Int)] 86)); clear hb2)
      | (go_at_call 130; refine (HB.out _).mono ?_; clear HB; rintro e w8 ⟨rfl, hw8⟩; have hw8 := hw8.symm; subst hw8)
      | (go_at_call 79; refine (take_any _ K t u lv F3.out.pat hgu).mono ?_; rintro e w4 ⟨rfl, hP, hC⟩; have F4 := Lib.hid (F3.out.step hC hP); obtain ⟨q0, q1, q2, q3, r0, r1, r2, r3⟩ := F4.out.cells; obtain ⟨i1, i2, i3, i4⟩ := F4.out.nums; clear hC hP))
    have f := F4.out.fin (x := V.heap.size) (Nf.leaf _ _ (15) (0) (PS.bs t.text) (hsz)) [] rfl
    refine bodyPost_ret (ret_N rfl _ rfl f.1) rfl f.2
  have h4' : PS.isBi t.text = false := by simpa using h4
  rw [if_neg h4] at hRR
  rw [h4'] at HB
  have HN := Lib.hid (fun W => isName_any W t)
  by_cases h5 : PS.isName t = true
  · have hgu := PS.isName_text hgd h5
    have hsz := name_len hgd h5
    rw [if_pos h5] at hRR
    obtain rfl := hRR
    rw [h5] at HN
    clear hR hk2 h1 h2 h3 hPar h4 h4' h5
    go_enter Tryz.func168, Tryz.ntmps168
    go_wp2_with (first
      | (go_at_call 60; refine (next_any _ K t u lv F1.out.pat).mono ?_; rintro e w2 ⟨rfl, hb2⟩; have F2 := Lib.hid (F1.out.below hb2); have F3 := Lib.hid (F2.out.alloc (.cells #[.int .i64 (t.kind : Int), .int .i64 (t.pos : Int), .string (PS.bs t.text), .int .i64 (t.num : Int)] 86)); clear hb2)
      | (go_at_call 130; refine (HB.out _).mono ?_; clear HB; rintro e w8 ⟨rfl, hw8⟩; have hw8 := hw8.symm; subst hw8)
      | (go_at_call 104; refine (HN.out _).mono ?_; clear HN; rintro e w9 ⟨rfl, hb9⟩; have F9 := Lib.hid (F3.out.below hb9); clear hb9)
      | (go_at_call 79; refine (take_any _ K t u lv F9.out.pat hgu).mono ?_; rintro e w4 ⟨rfl, hP, hC⟩; have F4 := Lib.hid (F9.out.step hC hP); obtain ⟨q0, q1, q2, q3, r0, r1, r2, r3⟩ := F4.out.cells; obtain ⟨i1, i2, i3, i4⟩ := F4.out.nums; clear hC hP))
    have f := F4.out.fin (x := V.heap.size) (Nf.leaf _ _ (14) (0) (PS.bs t.text) (hsz)) [] rfl
    refine bodyPost_ret (ret_N rfl _ rfl f.1) rfl f.2
  have h5' : PS.isName t = false := by simpa using h5
  rw [if_neg h5] at hRR
  rw [h5'] at HN
  cases R with
  | out => exact absurd rfl hR
  | err q d =>
    have HD := Lib.hid (hPar.at_ hRR hlv err_ne)
    clear hR hk2 h1 h2 h3 hPar h4 h4' h5 h5' hRR
    go_enter Tryz.func168, Tryz.ntmps168
    go_wp2_with (first
      | (go_at_call 60; refine (next_any _ K t u lv F1.out.pat).mono ?_; rintro e w2 ⟨rfl, hb2⟩; have F2 := Lib.hid (F1.out.below hb2); have F3 := Lib.hid (F2.out.alloc (.cells #[.int .i64 (t.kind : Int), .int .i64 (t.pos : Int), .string (PS.bs t.text), .int .i64 (t.num : Int)] 86)); clear hb2)
      | (go_at_call 130; refine (HB.out _).mono ?_; clear HB; rintro e w8 ⟨rfl, hw8⟩; have hw8 := hw8.symm; subst hw8)
      | (go_at_call 104; refine (HN.out _).mono ?_; clear HN; rintro e w9 ⟨rfl, hb9⟩; have F9 := Lib.hid (F3.out.below hb9); clear hb9)
      | (go_at_call 169; refine (HD.out _ F9.out.pat).mono ?_; clear HD; rintro e w9 ⟨hC, rfl⟩))
    exact ⟨rfl, F9.out.chg.trans hC (fun _ _ e => e), rfl⟩
  | ok x r =>
    have HD := Lib.hid (hPar.at_ hRR hlv ok_ne)
    clear hR hk2 h1 h2 h3 hPar h4 h4' h5 h5' hRR
    go_enter Tryz.func168, Tryz.ntmps168
    go_wp2_with (first
      | (go_at_call 60; refine (next_any _ K t u lv F1.out.pat).mono ?_; rintro e w2 ⟨rfl, hb2⟩; have F2 := Lib.hid (F1.out.below hb2); have F3 := Lib.hid (F2.out.alloc (.cells #[.int .i64 (t.kind : Int), .int .i64 (t.pos : Int), .string (PS.bs t.text), .int .i64 (t.num : Int)] 86)); clear hb2)
      | (go_at_call 130; refine (HB.out _).mono ?_; clear HB; rintro e w8 ⟨rfl, hw8⟩; have hw8 := hw8.symm; subst hw8)
      | (go_at_call 104; refine (HN.out _).mono ?_; clear HN; rintro e w9 ⟨rfl, hb9⟩; have F9 := Lib.hid (F3.out.below hb9); clear hb9)
      | (go_at_call 169; refine (HD.out _ F9.out.pat).mono ?_; clear HD; rintro e w5 ⟨hC, v, rfl, hv, hP⟩; obtain ⟨k2, n2, s2, A2, m2, c2, rfl⟩ := hv.shape; have F5 := Lib.hid (F9.out.step hC hP); have V5 := Lib.hid (hv.sx (x := V.heap.size) F9.out.lt (.inl F9.out.lt)); obtain ⟨q0, q1, q2, q3, r0, r1, r2, r3⟩ := F5.out.cells; obtain ⟨i1, i2, i3, i4⟩ := F5.out.nums; clear hv hC hP))
    have f := F5.out.fin V5.out [] rfl
    refine bodyPost_ret (ret_N rfl _ rfl f.1) rfl f.2
end Go.Proofs.YtlfpaemfhanpiaaGreatDoor

namespace Go.Proofs.YtlfpaemfhanpiaaGreatDoor
open Go Go.RowKit Go.Proofs

/-- All functions that parse expressions do as the model at this fuel. -/
structure AllE (f : Nat) (K : Pc) (lv : Nat) : Prop where
  e1 : PFn 77 #[.pointer (some ⟨K.g, 0, none⟩)] K lv (PS.pe f (.ex 1) lv)
  e2 : PFn 101 #[.pointer (some ⟨K.g, 0, none⟩)] K lv (PS.pe f (.ex 2) lv)
  e3 : PFn 127 #[.pointer (some ⟨K.g, 0, none⟩)] K lv (PS.pe f (.ex 3) lv)
  e4 : PFn 148 #[.pointer (some ⟨K.g, 0, none⟩)] K lv (PS.pe f (.ex 4) lv)
  e5 : PFn 160 #[.pointer (some ⟨K.g, 0, none⟩)] K lv (PS.pe f (.ex 5) lv)
  e6 : PFn 164 #[.pointer (some ⟨K.g, 0, none⟩)] K lv (PS.pe f (.ex 6) lv)
  e7 : PFn 167 #[.pointer (some ⟨K.g, 0, none⟩)] K lv (PS.pe f (.ex 7) lv)
  e8 : PFn 168 #[.pointer (some ⟨K.g, 0, none⟩)] K lv (PS.pe f (.ex 8) lv)
theorem pfn_zero (F : FuncId) (args : Array Value) (K : Pc) (lv p : Nat) : PFn F args K lv (PS.pe 0 (.ex p) lv) := fun _ _ _ _ h => absurd rfl h
theorem allE : ∀ (f : Nat) (K : Pc) (lv : Nat), AllE f K lv := by
  intro f
  induction f using Nat.strongRecOn with
  | ind f ih =>
    intro K lv
    cases f with
    | zero => exact ⟨pfn_zero _ _ _ _ _, pfn_zero _ _ _ _ _, pfn_zero _ _ _ _ _, pfn_zero _ _ _ _ _, pfn_zero _ _ _ _ _, pfn_zero _ _ _ _ _, pfn_zero _ _ _ _ _, pfn_zero _ _ _ _ _⟩
    | succ f =>
      have I := fun K lv => ih f (Nat.lt_succ_self f) K lv
      have J := fun f' (h : f' ≤ f) => ih f' (Nat.lt_succ_of_le h) K lv
      exact ⟨expr_any K lv f fun f' h => (J f' h).e2, and_any K lv f fun f' h => (J f' h).e3, not_any K lv (PS.pe f) (I K (lv + 1)).e3 (I K lv).e4, comparison_any K lv (PS.pe f) (I K lv).e5, sum_any K lv f fun f' h => (J f' h).e6, product_any K lv f fun f' h => (J f' h).e7, unary_any K lv (PS.pe f) (I K (lv + 1)).e7 (I K lv).e8, primary_any K lv (PS.pe f) (I K (lv + 1)).e1⟩
end Go.Proofs.YtlfpaemfhanpiaaGreatDoor

namespace Go.Proofs.YtlfpaemfhanpiaaGreatDoor
open Go Go.RowKit Go.Proofs
attribute [local go_sem] Oper.semAt_some field0 field1 field2 field3

/-- A variable of the call's own, in block b, holds the tree t. -/
structure Bx (V w : World) (b : Nat) (t : TY.Nd) (k n : Int) (s : ByteArray) (Kv : Value) : Prop where
  cells : w.heap[b]? = some (.cells #[.int .i64 k, .int .i64 n, .string s, Kv] 33 (0, 0))
  tree : Nf (Sx V V.heap.size) w t (ndv k n s Kv)
  big : V.heap.size < b
section
variable {V w w' : World} {b : Nat} {t : TY.Nd} {k n : Int} {s : ByteArray} {Kv : Value} {K : Pc}
theorem Bx.step (h : Bx V w b t k n s Kv) (hC : Chg (· = K.g) w w') (hg : K.g < V.heap.size) : Bx V w' b t k n s Kv :=
  ⟨(hC.block _ (heap_lt h.cells) (by have := h.big; omega)).trans h.cells, h.tree.step hC hg, h.big⟩
theorem Bx.below (h : Bx V w b t k n s Kv) (hb : Below w.heap.size w w') : Bx V w' b t k n s Kv :=
  ⟨(hb.block _ (heap_lt h.cells)).trans h.cells, h.tree.below hb, h.big⟩
theorem Bx.alloc (h : Bx V w b t k n s Kv) (o : Obj) : Bx V (w.alloc o) b t k n s Kv := h.below ((Below.refl _ _).alloc (Nat.le_refl _) o)
theorem Bx.new {B : Nat} (h : Nw B w t (ndv k n s Kv)) (hB : V.heap.size < B) (hw : V.heap.size < w.heap.size) : Bx V (w.alloc (.cells #[.int .i64 k, .int .i64 n, .string s, Kv] 33)) w.heap.size t k n s Kv :=
  ⟨World.alloc_heap_new w _, (h.sx hB (.inl hB)).below ((Below.refl _ _).alloc (Nat.le_refl _) _), hw⟩
theorem Bx.four (h : Bx V w b t k n s Kv) : w.cell? ⟨b, 0, none⟩ = some (.int .i64 k) ∧ w.cell? ⟨b, 1, none⟩ = some (.int .i64 n) ∧ w.cell? ⟨b, 2, none⟩ = some (.string s) ∧ w.cell? ⟨b, 3, none⟩ = some Kv := by
  obtain ⟨q0, q1, q2, q3, _⟩ := tok_cells h.cells
  exact ⟨q0, q1, q2, q3⟩
end
theorem Nf.three {S : Nat → Prop} {w : World} {t0 t1 t2 : TY.Nd} {k n : Int} {s : ByteArray} {k0 n0 k1 n1 k2 n2 : Int} {s0 s1 s2 : ByteArray} {K0 K1 K2 : Value} {g : Nat} (hg : w.heap[g]? = some (.cells #[.int .i64 k0, .int .i64 n0, .string s0, K0, .int .i64 k1, .int .i64 n1, .string s1, K1, .int .i64 k2, .int .i64 n2, .string s2, K2] 33 (0, 0))) (hS : S g) (hs : s.size ≤ 1000) (h : Nf S w t0 (ndv k0 n0 s0 K0)) (h' : Nf S w t1 (ndv k1 n1 s1 K1)) (h'' : Nf S w t2 (ndv k2 n2 s2 K2)) : Nf S w (.mk k n s [t0, t1, t2]) (ndv k n s (.slice (some ⟨g, 0, none⟩) 3 3)) := fun V hV hi hh =>
  NdV.three ((hV g hS (heap_lt hg)).trans hg) (by have := heap_lt hg; omega) hs (h V hV hi hh) (h' V hV hi hh) (h'' V hV hi hh)
theorem must_at {V : World} {K : Pc} {ts : List LX.Tok} {lv : Nat} {s : PS.Bs} {R : PS.PR Unit} (h : PAt V K ts lv) (hs : s ≠ []) (hR : PS.must s ts = R) :
    Calls Tryz.prog 76 #[.pointer (some ⟨K.g, 0, none⟩), .string (PS.bs s)] V (URes V K lv (fun _ : Unit => .tuple #[]) R) := hR ▸ must_any V K ts lv s hs h
theorem numb_at {V : World} {K : Pc} {ts : List LX.Tok} {lv lim : Nat} {R : PS.PR Nat} (h : PAt V K ts lv) (hR : PS.numb lim ts = R) :
    Calls Tryz.prog 80 #[.pointer (some ⟨K.g, 0, none⟩), .int .i64 (lim : Int)] V (URes V K lv (fun n : Nat => .int .i64 (n : Int)) R) := hR ▸ number_any V K ts lv lim h
/-- A statement that begins with this word. -/
def onW (w : PS.Bs) (M : List LX.Tok → PS.PR TY.Nd) : List LX.Tok → PS.PR TY.Nd
  | [] => .out
  | t :: u => if t.text = w then M u else .out
end Go.Proofs.YtlfpaemfhanpiaaGreatDoor

namespace Go.Proofs.YtlfpaemfhanpiaaGreatDoor
open Go Go.RowKit Go.Proofs
attribute [local go_sem] Oper.semAt_some field0 field1 field2 field3

set_option maxRecDepth 100000 in
set_option maxHeartbeats 8000000 in
theorem timer_any (K : Pc) (lv : Nat) (k : Int) (wd : PS.Bs) (hwd : wd ≠ []) : PFn 49 #[.pointer (some ⟨K.g, 0, none⟩), .int .i64 k] K lv (onW wd (PS.pTimer k)) := by
  intro V ts hlv h hR
  have F1 := Lib.hid (Fr.begin h)
  obtain ⟨t, u, rfl⟩ := h.good.ne
  have hgd := h.good
  have h1 : t.text = wd := Decidable.byContradiction fun h1 => absurd (if_neg h1) hR
  obtain ⟨R, hRR⟩ : ∃ R, (PS.pTimer k) u = R := ⟨_, rfl⟩
  have ho : onW wd (PS.pTimer k) (t :: u) = R := by rw [← hRR]; exact if_pos h1
  rw [ho] at hR ⊢
  have hgu := hgd.tail (by rw [h1]; exact hwd)
  clear h ho
  simp only [PS.pTimer, PS.semi] at hRR
  go_enter Tryz.func49, Tryz.ntmps49
  have HM := Lib.hid (take_any _ K t u lv F1.out.pat hgu)
  go_wp2_with (first
    | (go_at_call 79; refine HM.out.mono ?_; clear HM; rintro e w2 ⟨rfl, hP, hC⟩; have F2 := Lib.hid (F1.out.step hC hP); clear hC hP))
  cases hq3 : PS.numb 8 u with
  | out => rw [hq3] at hRR; exact absurd hRR.symm hR
  | err pp cc =>
    rw [hq3] at hRR
    have hRR : PS.PR.err pp cc = R := hRR
    obtain rfl := hRR
    have HM := Lib.hid (numb_at F2.out.pat hq3)
    clear hq3
    go_wp2_with (first
      | (go_at_call 80; refine HM.out.mono ?_; clear HM; rintro e wz ⟨hC, rfl⟩))
    exact ⟨rfl, F2.out.chg.trans hC (fun _ _ e => e), rfl⟩
  | ok n3 r3 =>
    rw [hq3] at hRR
    simp only [PS.PR.bind_ok] at hRR
    have HM := Lib.hid (numb_at F2.out.pat hq3)
    clear hq3
    go_wp2_with (first
      | (go_at_call 80; refine HM.out.mono ?_; clear HM; rintro e w3 ⟨hC, rfl, hP⟩; have F3 := Lib.hid (F2.out.step hC hP); have F3b := Lib.hid (F3.out.alloc (.cells #[.int .i64 k, .int .i64 (n3 : Int), .string ⟨#[]⟩, .slice none 0 0] 33)); have XA := Lib.hid (show Bx V (w3.alloc (.cells #[.int .i64 k, .int .i64 (n3 : Int), .string ⟨#[]⟩, .slice none 0 0] 33)) w3.heap.size (.mk k (n3 : Int) ⟨#[]⟩ []) k (n3 : Int) ⟨#[]⟩ (.slice none 0 0) from ⟨World.alloc_heap_new _ _, Nf.leaf _ _ _ _ _ (by decide), F3.out.lt⟩); clear hC hP))
    cases hq4 : PS.must PS.ySemi r3 with
    | out => rw [hq4] at hRR; exact absurd hRR.symm hR
    | err pp cc =>
      rw [hq4] at hRR
      have hRR : PS.PR.err pp cc = R := hRR
      obtain rfl := hRR
      have HM := Lib.hid (must_at F3b.out.pat (by decide) hq4)
      clear hq4
      go_wp2_with (first
        | (go_at_call 76; refine HM.out.mono ?_; clear HM; rintro e wz ⟨hC, rfl⟩))
      exact ⟨rfl, F3b.out.chg.trans hC (fun _ _ e => e), rfl⟩
    | ok a4 r4 =>
      rw [hq4] at hRR
      simp only [PS.PR.bind_ok] at hRR
      obtain rfl := hRR
      have HM := Lib.hid (must_at F3b.out.pat (by decide) hq4)
      clear hq4
      go_wp2_with (first
        | (go_at_call 76; refine HM.out.mono ?_; clear HM; rintro e w4 ⟨hC, rfl, hP⟩; have F4 := Lib.hid (F3b.out.step hC hP); have XA_4 := Lib.hid (XA.out.step hC F3b.out.g); obtain ⟨q0, q1, q2, q3, z0, z1, z2, z3⟩ := F4.out.cells; obtain ⟨i1, i2, i3, i4⟩ := F4.out.nums; obtain ⟨yA0, yA1, yA2, yA3⟩ := XA_4.out.four; have yAl := heap_lt XA_4.out.cells; clear hC hP))
      have f := F4.out.fin XA_4.out.tree [] rfl
      refine bodyPost_ret (ret_N rfl _ rfl f.1) rfl f.2
set_option maxRecDepth 100000 in
set_option maxHeartbeats 8000000 in
theorem simple_any (K : Pc) (lv : Nat) (k : Int) (wd : PS.Bs) (hwd : wd ≠ []) : PFn 52 #[.pointer (some ⟨K.g, 0, none⟩), .int .i64 k] K lv (onW wd (PS.pSimple k)) := by
  intro V ts hlv h hR
  have F1 := Lib.hid (Fr.begin h)
  obtain ⟨t, u, rfl⟩ := h.good.ne
  have hgd := h.good
  have h1 : t.text = wd := Decidable.byContradiction fun h1 => absurd (if_neg h1) hR
  obtain ⟨R, hRR⟩ : ∃ R, (PS.pSimple k) u = R := ⟨_, rfl⟩
  have ho : onW wd (PS.pSimple k) (t :: u) = R := by rw [← hRR]; exact if_pos h1
  rw [ho] at hR ⊢
  have hgu := hgd.tail (by rw [h1]; exact hwd)
  clear h ho
  simp only [PS.pSimple, PS.semi] at hRR
  go_enter Tryz.func52, Tryz.ntmps52
  have HM := Lib.hid (take_any _ K t u lv F1.out.pat hgu)
  go_wp2_with (first
    | (go_at_call 79; refine HM.out.mono ?_; clear HM; rintro e w2 ⟨rfl, hP, hC⟩; have F2 := Lib.hid (F1.out.step hC hP); clear hC hP))
  cases hq3 : PS.must PS.ySemi u with
  | out => rw [hq3] at hRR; exact absurd hRR.symm hR
  | err pp cc =>
    rw [hq3] at hRR
    have hRR : PS.PR.err pp cc = R := hRR
    obtain rfl := hRR
    have HM := Lib.hid (must_at F2.out.pat (by decide) hq3)
    clear hq3
    go_wp2_with (first
      | (go_at_call 76; refine HM.out.mono ?_; clear HM; rintro e wz ⟨hC, rfl⟩))
    exact ⟨rfl, F2.out.chg.trans hC (fun _ _ e => e), rfl⟩
  | ok a3 r3 =>
    rw [hq3] at hRR
    simp only [PS.PR.bind_ok] at hRR
    obtain rfl := hRR
    have HM := Lib.hid (must_at F2.out.pat (by decide) hq3)
    clear hq3
    go_wp2_with (first
      | (go_at_call 76; refine HM.out.mono ?_; clear HM; rintro e w3 ⟨hC, rfl, hP⟩; have F3 := Lib.hid (F2.out.step hC hP); obtain ⟨q0, q1, q2, q3, z0, z1, z2, z3⟩ := F3.out.cells; obtain ⟨i1, i2, i3, i4⟩ := F3.out.nums; clear hC hP))
    have f := F3.out.fin (x := V.heap.size) (Nf.leaf _ _ (k) (0) ⟨#[]⟩ (by decide)) [] rfl
    refine bodyPost_ret (ret_N rfl _ rfl f.1) rfl f.2
set_option maxRecDepth 100000 in
set_option maxHeartbeats 8000000 in
theorem reply_any (K : Pc) (lv : Nat) (E : PS.Ex) (hE : PFn 77 #[.pointer (some ⟨K.g, 0, none⟩)] K lv (E lv)) : PFn 54 #[.pointer (some ⟨K.g, 0, none⟩)] K lv (onW PS.wReply (PS.pReply E lv)) := by
  intro V ts hlv h hR
  have F1 := Lib.hid (Fr.begin h)
  obtain ⟨t, u, rfl⟩ := h.good.ne
  have hgd := h.good
  have h1 : t.text = PS.wReply := Decidable.byContradiction fun h1 => absurd (if_neg h1) hR
  obtain ⟨R, hRR⟩ : ∃ R, (PS.pReply E lv) u = R := ⟨_, rfl⟩
  have ho : onW PS.wReply (PS.pReply E lv) (t :: u) = R := by rw [← hRR]; exact if_pos h1
  rw [ho] at hR ⊢
  have hgu := hgd.tail (by rw [h1]; decide)
  clear h ho
  simp only [PS.pReply, PS.semi] at hRR
  go_enter Tryz.func54, Tryz.ntmps54
  have HM := Lib.hid (must_at F1.out.pat (by decide) (show PS.must PS.wReply (t :: u) = .ok () u by simp only [PS.must, if_pos h1]))
  go_wp2_with (first
    | (go_at_call 76; refine HM.out.mono ?_; clear HM; rintro e w2 ⟨hC, rfl, hP⟩; have F2 := Lib.hid (F1.out.step hC hP); clear hC hP))
  cases hq3 : E lv u with
  | out => rw [hq3] at hRR; exact absurd hRR.symm hR
  | err pp cc =>
    rw [hq3] at hRR
    have hRR : PS.PR.err pp cc = R := hRR
    obtain rfl := hRR
    have HM := Lib.hid (hE.at_ hq3 hlv err_ne _ F2.out.pat)
    clear hq3
    go_wp2_with (first
      | (go_at_call 77; refine HM.out.mono ?_; clear HM; rintro e wz ⟨hC, rfl⟩))
    exact ⟨rfl, F2.out.chg.trans hC (fun _ _ e => e), rfl⟩
  | ok t3 r3 =>
    rw [hq3] at hRR
    simp only [PS.PR.bind_ok] at hRR
    have HM := Lib.hid (hE.at_ hq3 hlv ok_ne _ F2.out.pat)
    clear hq3
    go_wp2_with (first
      | (go_at_call 77; refine HM.out.mono ?_; clear HM; rintro e w3 ⟨hC, v, rfl, hv, hP⟩; obtain ⟨k3, n3, s3, A3, m3, c3, rfl⟩ := hv.shape; have F3 := Lib.hid (F2.out.step hC hP); have F3b := Lib.hid (F3.out.alloc (.cells #[.int .i64 k3, .int .i64 n3, .string s3, .slice A3 m3 c3] 33)); have XA := Lib.hid (Bx.new hv F2.out.lt F3.out.lt); clear hv hC hP))
    cases hq4 : PS.must PS.yComma r3 with
    | out => rw [hq4] at hRR; exact absurd hRR.symm hR
    | err pp cc =>
      rw [hq4] at hRR
      have hRR : PS.PR.err pp cc = R := hRR
      obtain rfl := hRR
      have HM := Lib.hid (must_at F3b.out.pat (by decide) hq4)
      clear hq4
      go_wp2_with (first
        | (go_at_call 76; refine HM.out.mono ?_; clear HM; rintro e wz ⟨hC, rfl⟩))
      exact ⟨rfl, F3b.out.chg.trans hC (fun _ _ e => e), rfl⟩
    | ok a4 r4 =>
      rw [hq4] at hRR
      simp only [PS.PR.bind_ok] at hRR
      have HM := Lib.hid (must_at F3b.out.pat (by decide) hq4)
      clear hq4
      go_wp2_with (first
        | (go_at_call 76; refine HM.out.mono ?_; clear HM; rintro e w4 ⟨hC, rfl, hP⟩; have F4 := Lib.hid (F3b.out.step hC hP); have XA_4 := Lib.hid (XA.out.step hC F3b.out.g); clear hC hP))
      cases hq5 : E lv r4 with
      | out => rw [hq5] at hRR; exact absurd hRR.symm hR
      | err pp cc =>
        rw [hq5] at hRR
        have hRR : PS.PR.err pp cc = R := hRR
        obtain rfl := hRR
        have HM := Lib.hid (hE.at_ hq5 hlv err_ne _ F4.out.pat)
        clear hq5
        go_wp2_with (first
          | (go_at_call 77; refine HM.out.mono ?_; clear HM; rintro e wz ⟨hC, rfl⟩))
        exact ⟨rfl, F4.out.chg.trans hC (fun _ _ e => e), rfl⟩
      | ok t5 r5 =>
        rw [hq5] at hRR
        simp only [PS.PR.bind_ok] at hRR
        have HM := Lib.hid (hE.at_ hq5 hlv ok_ne _ F4.out.pat)
        clear hq5
        go_wp2_with (first
          | (go_at_call 77; refine HM.out.mono ?_; clear HM; rintro e w5 ⟨hC, v, rfl, hv, hP⟩; obtain ⟨k5, n5, s5, A5, m5, c5, rfl⟩ := hv.shape; have F5 := Lib.hid (F4.out.step hC hP); have F5b := Lib.hid (F5.out.alloc (.cells #[.int .i64 k5, .int .i64 n5, .string s5, .slice A5 m5 c5] 33)); have XA_5 := Lib.hid ((XA_4.out.step hC F4.out.g).alloc (.cells #[.int .i64 k5, .int .i64 n5, .string s5, .slice A5 m5 c5] 33)); have XB := Lib.hid (Bx.new hv F4.out.lt F5.out.lt); clear hv hC hP))
        cases hq6 : PS.must PS.ySemi r5 with
        | out => rw [hq6] at hRR; exact absurd hRR.symm hR
        | err pp cc =>
          rw [hq6] at hRR
          have hRR : PS.PR.err pp cc = R := hRR
          obtain rfl := hRR
          have HM := Lib.hid (must_at F5b.out.pat (by decide) hq6)
          clear hq6
          go_wp2_with (first
            | (go_at_call 76; refine HM.out.mono ?_; clear HM; rintro e wz ⟨hC, rfl⟩))
          exact ⟨rfl, F5b.out.chg.trans hC (fun _ _ e => e), rfl⟩
        | ok a6 r6 =>
          rw [hq6] at hRR
          simp only [PS.PR.bind_ok] at hRR
          obtain rfl := hRR
          have HM := Lib.hid (must_at F5b.out.pat (by decide) hq6)
          clear hq6
          go_wp2_with (first
            | (go_at_call 76; refine HM.out.mono ?_; clear HM; rintro e w6 ⟨hC, rfl, hP⟩; have F6 := Lib.hid (F5b.out.step hC hP); have XA_6 := Lib.hid (XA_5.out.step hC F5b.out.g); have XB_6 := Lib.hid (XB.out.step hC F5b.out.g); obtain ⟨q0, q1, q2, q3, z0, z1, z2, z3⟩ := F6.out.cells; obtain ⟨i1, i2, i3, i4⟩ := F6.out.nums; obtain ⟨yA0, yA1, yA2, yA3⟩ := XA_6.out.four; have yAl := heap_lt XA_6.out.cells; obtain ⟨yB0, yB1, yB2, yB3⟩ := XB_6.out.four; have yBl := heap_lt XB_6.out.cells; clear hC hP))
          have hl := F6.out.lt
          have f := F6.out.fin_new (x := V.heap.size) (.cells #[.int .i64 k3, .int .i64 n3, .string s3, .slice A3 m3 c3, .int .i64 k5, .int .i64 n5, .string s5, .slice A5 m5 c5] 33) (Nf.two (k := 8) (n := 0) (s := ⟨#[]⟩) (World.alloc_heap_new w6 _) ⟨hl, by omega⟩ (by decide) (XA_6.out.alloc _).tree (XB_6.out.alloc _).tree) rfl
          refine bodyPost_ret (ret_N rfl _ rfl f.1) rfl f.2
set_option maxRecDepth 100000 in
set_option maxHeartbeats 8000000 in
theorem fault_any (K : Pc) (lv : Nat) (E : PS.Ex) (hE : PFn 77 #[.pointer (some ⟨K.g, 0, none⟩)] K lv (E lv)) : PFn 55 #[.pointer (some ⟨K.g, 0, none⟩)] K lv (onW PS.wFail (PS.pFail E lv)) := by
  intro V ts hlv h hR
  have F1 := Lib.hid (Fr.begin h)
  obtain ⟨t, u, rfl⟩ := h.good.ne
  have hgd := h.good
  have h1 : t.text = PS.wFail := Decidable.byContradiction fun h1 => absurd (if_neg h1) hR
  obtain ⟨R, hRR⟩ : ∃ R, (PS.pFail E lv) u = R := ⟨_, rfl⟩
  have ho : onW PS.wFail (PS.pFail E lv) (t :: u) = R := by rw [← hRR]; exact if_pos h1
  rw [ho] at hR ⊢
  have hgu := hgd.tail (by rw [h1]; decide)
  clear h ho
  simp only [PS.pFail, PS.semi] at hRR
  go_enter Tryz.func55, Tryz.ntmps55
  have HM := Lib.hid (must_at F1.out.pat (by decide) (show PS.must PS.wFail (t :: u) = .ok () u by simp only [PS.must, if_pos h1]))
  go_wp2_with (first
    | (go_at_call 76; refine HM.out.mono ?_; clear HM; rintro e w2 ⟨hC, rfl, hP⟩; have F2 := Lib.hid (F1.out.step hC hP); clear hC hP))
  cases hq3 : E lv u with
  | out => rw [hq3] at hRR; exact absurd hRR.symm hR
  | err pp cc =>
    rw [hq3] at hRR
    have hRR : PS.PR.err pp cc = R := hRR
    obtain rfl := hRR
    have HM := Lib.hid (hE.at_ hq3 hlv err_ne _ F2.out.pat)
    clear hq3
    go_wp2_with (first
      | (go_at_call 77; refine HM.out.mono ?_; clear HM; rintro e wz ⟨hC, rfl⟩))
    exact ⟨rfl, F2.out.chg.trans hC (fun _ _ e => e), rfl⟩
  | ok t3 r3 =>
    rw [hq3] at hRR
    simp only [PS.PR.bind_ok] at hRR
    have HM := Lib.hid (hE.at_ hq3 hlv ok_ne _ F2.out.pat)
    clear hq3
    go_wp2_with (first
      | (go_at_call 77; refine HM.out.mono ?_; clear HM; rintro e w3 ⟨hC, v, rfl, hv, hP⟩; obtain ⟨k3, n3, s3, A3, m3, c3, rfl⟩ := hv.shape; have F3 := Lib.hid (F2.out.step hC hP); have F3b := Lib.hid (F3.out.alloc (.cells #[.int .i64 k3, .int .i64 n3, .string s3, .slice A3 m3 c3] 33)); have XA := Lib.hid (Bx.new hv F2.out.lt F3.out.lt); clear hv hC hP))
    cases hq4 : PS.must PS.ySemi r3 with
    | out => rw [hq4] at hRR; exact absurd hRR.symm hR
    | err pp cc =>
      rw [hq4] at hRR
      have hRR : PS.PR.err pp cc = R := hRR
      obtain rfl := hRR
      have HM := Lib.hid (must_at F3b.out.pat (by decide) hq4)
      clear hq4
      go_wp2_with (first
        | (go_at_call 76; refine HM.out.mono ?_; clear HM; rintro e wz ⟨hC, rfl⟩))
      exact ⟨rfl, F3b.out.chg.trans hC (fun _ _ e => e), rfl⟩
    | ok a4 r4 =>
      rw [hq4] at hRR
      simp only [PS.PR.bind_ok] at hRR
      obtain rfl := hRR
      have HM := Lib.hid (must_at F3b.out.pat (by decide) hq4)
      clear hq4
      go_wp2_with (first
        | (go_at_call 76; refine HM.out.mono ?_; clear HM; rintro e w4 ⟨hC, rfl, hP⟩; have F4 := Lib.hid (F3b.out.step hC hP); have XA_4 := Lib.hid (XA.out.step hC F3b.out.g); obtain ⟨q0, q1, q2, q3, z0, z1, z2, z3⟩ := F4.out.cells; obtain ⟨i1, i2, i3, i4⟩ := F4.out.nums; obtain ⟨yA0, yA1, yA2, yA3⟩ := XA_4.out.four; have yAl := heap_lt XA_4.out.cells; clear hC hP))
      have hl := F4.out.lt
      have f := F4.out.fin_new (x := V.heap.size) (.cells #[.int .i64 k3, .int .i64 n3, .string s3, .slice A3 m3 c3] 33) (Nf.one (k := 9) (n := 0) (s := ⟨#[]⟩) (World.alloc_heap_new w4 _) ⟨hl, by omega⟩ (by decide) (XA_4.out.alloc _).tree) rfl
      refine bodyPost_ret (ret_N rfl _ rfl f.1) rfl f.2
set_option maxRecDepth 100000 in
set_option maxHeartbeats 8000000 in
theorem send_any (K : Pc) (lv : Nat) (E : PS.Ex) (hE : PFn 77 #[.pointer (some ⟨K.g, 0, none⟩)] K lv (E lv)) : PFn 47 #[.pointer (some ⟨K.g, 0, none⟩)] K lv (onW PS.wSend (PS.pSend E lv)) := by
  intro V ts hlv h hR
  have F1 := Lib.hid (Fr.begin h)
  obtain ⟨t, u, rfl⟩ := h.good.ne
  have hgd := h.good
  have h1 : t.text = PS.wSend := Decidable.byContradiction fun h1 => absurd (if_neg h1) hR
  obtain ⟨R, hRR⟩ : ∃ R, (PS.pSend E lv) u = R := ⟨_, rfl⟩
  have ho : onW PS.wSend (PS.pSend E lv) (t :: u) = R := by rw [← hRR]; exact if_pos h1
  rw [ho] at hR ⊢
  have hgu := hgd.tail (by rw [h1]; decide)
  clear h ho
  simp only [PS.pSend, PS.semi] at hRR
  go_enter Tryz.func47, Tryz.ntmps47
  have HM := Lib.hid (must_at F1.out.pat (by decide) (show PS.must PS.wSend (t :: u) = .ok () u by simp only [PS.must, if_pos h1]))
  go_wp2_with (first
    | (go_at_call 76; refine HM.out.mono ?_; clear HM; rintro e w2 ⟨hC, rfl, hP⟩; have F2 := Lib.hid (F1.out.step hC hP); clear hC hP))
  cases hq3 : E lv u with
  | out => rw [hq3] at hRR; exact absurd hRR.symm hR
  | err pp cc =>
    rw [hq3] at hRR
    have hRR : PS.PR.err pp cc = R := hRR
    obtain rfl := hRR
    have HM := Lib.hid (hE.at_ hq3 hlv err_ne _ F2.out.pat)
    clear hq3
    go_wp2_with (first
      | (go_at_call 77; refine HM.out.mono ?_; clear HM; rintro e wz ⟨hC, rfl⟩))
    exact ⟨rfl, F2.out.chg.trans hC (fun _ _ e => e), rfl⟩
  | ok t3 r3 =>
    rw [hq3] at hRR
    simp only [PS.PR.bind_ok] at hRR
    have HM := Lib.hid (hE.at_ hq3 hlv ok_ne _ F2.out.pat)
    clear hq3
    go_wp2_with (first
      | (go_at_call 77; refine HM.out.mono ?_; clear HM; rintro e w3 ⟨hC, v, rfl, hv, hP⟩; obtain ⟨k3, n3, s3, A3, m3, c3, rfl⟩ := hv.shape; have F3 := Lib.hid (F2.out.step hC hP); have F3b := Lib.hid (F3.out.alloc (.cells #[.int .i64 k3, .int .i64 n3, .string s3, .slice A3 m3 c3] 33)); have XA := Lib.hid (Bx.new hv F2.out.lt F3.out.lt); clear hv hC hP))
    cases hq4 : PS.must PS.yComma r3 with
    | out => rw [hq4] at hRR; exact absurd hRR.symm hR
    | err pp cc =>
      rw [hq4] at hRR
      have hRR : PS.PR.err pp cc = R := hRR
      obtain rfl := hRR
      have HM := Lib.hid (must_at F3b.out.pat (by decide) hq4)
      clear hq4
      go_wp2_with (first
        | (go_at_call 76; refine HM.out.mono ?_; clear HM; rintro e wz ⟨hC, rfl⟩))
      exact ⟨rfl, F3b.out.chg.trans hC (fun _ _ e => e), rfl⟩
    | ok a4 r4 =>
      rw [hq4] at hRR
      simp only [PS.PR.bind_ok] at hRR
      have HM := Lib.hid (must_at F3b.out.pat (by decide) hq4)
      clear hq4
      go_wp2_with (first
        | (go_at_call 76; refine HM.out.mono ?_; clear HM; rintro e w4 ⟨hC, rfl, hP⟩; have F4 := Lib.hid (F3b.out.step hC hP); have XA_4 := Lib.hid (XA.out.step hC F3b.out.g); clear hC hP))
      cases hq5 : PS.numb 30 r4 with
      | out => rw [hq5] at hRR; exact absurd hRR.symm hR
      | err pp cc =>
        rw [hq5] at hRR
        have hRR : PS.PR.err pp cc = R := hRR
        obtain rfl := hRR
        have HM := Lib.hid (numb_at F4.out.pat hq5)
        clear hq5
        go_wp2_with (first
          | (go_at_call 80; refine HM.out.mono ?_; clear HM; rintro e wz ⟨hC, rfl⟩))
        exact ⟨rfl, F4.out.chg.trans hC (fun _ _ e => e), rfl⟩
      | ok n5 r5 =>
        rw [hq5] at hRR
        simp only [PS.PR.bind_ok] at hRR
        have HM := Lib.hid (numb_at F4.out.pat hq5)
        clear hq5
        go_wp2_with (first
          | (go_at_call 80; refine HM.out.mono ?_; clear HM; rintro e w5 ⟨hC, rfl, hP⟩; have F5 := Lib.hid (F4.out.step hC hP); have XA_5 := Lib.hid (XA_4.out.step hC F4.out.g); clear hC hP))
        cases hq6 : PS.must PS.yComma r5 with
        | out => rw [hq6] at hRR; exact absurd hRR.symm hR
        | err pp cc =>
          rw [hq6] at hRR
          have hRR : PS.PR.err pp cc = R := hRR
          obtain rfl := hRR
          have HM := Lib.hid (must_at F5.out.pat (by decide) hq6)
          clear hq6
          go_wp2_with (first
            | (go_at_call 76; refine HM.out.mono ?_; clear HM; rintro e wz ⟨hC, rfl⟩))
          exact ⟨rfl, F5.out.chg.trans hC (fun _ _ e => e), rfl⟩
        | ok a6 r6 =>
          rw [hq6] at hRR
          simp only [PS.PR.bind_ok] at hRR
          have HM := Lib.hid (must_at F5.out.pat (by decide) hq6)
          clear hq6
          go_wp2_with (first
            | (go_at_call 76; refine HM.out.mono ?_; clear HM; rintro e w6 ⟨hC, rfl, hP⟩; have F6 := Lib.hid (F5.out.step hC hP); have XA_6 := Lib.hid (XA_5.out.step hC F5.out.g); clear hC hP))
          cases hq7 : E lv r6 with
          | out => rw [hq7] at hRR; exact absurd hRR.symm hR
          | err pp cc =>
            rw [hq7] at hRR
            have hRR : PS.PR.err pp cc = R := hRR
            obtain rfl := hRR
            have HM := Lib.hid (hE.at_ hq7 hlv err_ne _ F6.out.pat)
            clear hq7
            go_wp2_with (first
              | (go_at_call 77; refine HM.out.mono ?_; clear HM; rintro e wz ⟨hC, rfl⟩))
            exact ⟨rfl, F6.out.chg.trans hC (fun _ _ e => e), rfl⟩
          | ok t7 r7 =>
            rw [hq7] at hRR
            simp only [PS.PR.bind_ok] at hRR
            have HM := Lib.hid (hE.at_ hq7 hlv ok_ne _ F6.out.pat)
            clear hq7
            go_wp2_with (first
              | (go_at_call 77; refine HM.out.mono ?_; clear HM; rintro e w7 ⟨hC, v, rfl, hv, hP⟩; obtain ⟨k7, n7, s7, A7, m7, c7, rfl⟩ := hv.shape; have F7 := Lib.hid (F6.out.step hC hP); have F7b := Lib.hid (F7.out.alloc (.cells #[.int .i64 k7, .int .i64 n7, .string s7, .slice A7 m7 c7] 33)); have XA_7 := Lib.hid ((XA_6.out.step hC F6.out.g).alloc (.cells #[.int .i64 k7, .int .i64 n7, .string s7, .slice A7 m7 c7] 33)); have XB := Lib.hid (Bx.new hv F6.out.lt F7.out.lt); clear hv hC hP))
            cases hq8 : PS.must PS.yComma r7 with
            | out => rw [hq8] at hRR; exact absurd hRR.symm hR
            | err pp cc =>
              rw [hq8] at hRR
              have hRR : PS.PR.err pp cc = R := hRR
              obtain rfl := hRR
              have HM := Lib.hid (must_at F7b.out.pat (by decide) hq8)
              clear hq8
              go_wp2_with (first
                | (go_at_call 76; refine HM.out.mono ?_; clear HM; rintro e wz ⟨hC, rfl⟩))
              exact ⟨rfl, F7b.out.chg.trans hC (fun _ _ e => e), rfl⟩
            | ok a8 r8 =>
              rw [hq8] at hRR
              simp only [PS.PR.bind_ok] at hRR
              have HM := Lib.hid (must_at F7b.out.pat (by decide) hq8)
              clear hq8
              go_wp2_with (first
                | (go_at_call 76; refine HM.out.mono ?_; clear HM; rintro e w8 ⟨hC, rfl, hP⟩; have F8 := Lib.hid (F7b.out.step hC hP); have XA_8 := Lib.hid (XA_7.out.step hC F7b.out.g); have XB_8 := Lib.hid (XB.out.step hC F7b.out.g); clear hC hP))
              cases hq9 : E lv r8 with
              | out => rw [hq9] at hRR; exact absurd hRR.symm hR
              | err pp cc =>
                rw [hq9] at hRR
                have hRR : PS.PR.err pp cc = R := hRR
                obtain rfl := hRR
                have HM := Lib.hid (hE.at_ hq9 hlv err_ne _ F8.out.pat)
                clear hq9
                go_wp2_with (first
                  | (go_at_call 77; refine HM.out.mono ?_; clear HM; rintro e wz ⟨hC, rfl⟩))
                exact ⟨rfl, F8.out.chg.trans hC (fun _ _ e => e), rfl⟩
              | ok t9 r9 =>
                rw [hq9] at hRR
                simp only [PS.PR.bind_ok] at hRR
                have HM := Lib.hid (hE.at_ hq9 hlv ok_ne _ F8.out.pat)
                clear hq9
                go_wp2_with (first
                  | (go_at_call 77; refine HM.out.mono ?_; clear HM; rintro e w9 ⟨hC, v, rfl, hv, hP⟩; obtain ⟨k9, n9, s9, A9, m9, c9, rfl⟩ := hv.shape; have F9 := Lib.hid (F8.out.step hC hP); have F9b := Lib.hid (F9.out.alloc (.cells #[.int .i64 k9, .int .i64 n9, .string s9, .slice A9 m9 c9] 33)); have XA_9 := Lib.hid ((XA_8.out.step hC F8.out.g).alloc (.cells #[.int .i64 k9, .int .i64 n9, .string s9, .slice A9 m9 c9] 33)); have XB_9 := Lib.hid ((XB_8.out.step hC F8.out.g).alloc (.cells #[.int .i64 k9, .int .i64 n9, .string s9, .slice A9 m9 c9] 33)); have XC := Lib.hid (Bx.new hv F8.out.lt F9.out.lt); clear hv hC hP))
                cases hq10 : PS.must PS.ySemi r9 with
                | out => rw [hq10] at hRR; exact absurd hRR.symm hR
                | err pp cc =>
                  rw [hq10] at hRR
                  have hRR : PS.PR.err pp cc = R := hRR
                  obtain rfl := hRR
                  have HM := Lib.hid (must_at F9b.out.pat (by decide) hq10)
                  clear hq10
                  go_wp2_with (first
                    | (go_at_call 76; refine HM.out.mono ?_; clear HM; rintro e wz ⟨hC, rfl⟩))
                  exact ⟨rfl, F9b.out.chg.trans hC (fun _ _ e => e), rfl⟩
                | ok a10 r10 =>
                  rw [hq10] at hRR
                  simp only [PS.PR.bind_ok] at hRR
                  obtain rfl := hRR
                  have HM := Lib.hid (must_at F9b.out.pat (by decide) hq10)
                  clear hq10
                  go_wp2_with (first
                    | (go_at_call 76; refine HM.out.mono ?_; clear HM; rintro e w10 ⟨hC, rfl, hP⟩; have F10 := Lib.hid (F9b.out.step hC hP); have XA_10 := Lib.hid (XA_9.out.step hC F9b.out.g); have XB_10 := Lib.hid (XB_9.out.step hC F9b.out.g); have XC_10 := Lib.hid (XC.out.step hC F9b.out.g); obtain ⟨q0, q1, q2, q3, z0, z1, z2, z3⟩ := F10.out.cells; obtain ⟨i1, i2, i3, i4⟩ := F10.out.nums; obtain ⟨yA0, yA1, yA2, yA3⟩ := XA_10.out.four; have yAl := heap_lt XA_10.out.cells; obtain ⟨yB0, yB1, yB2, yB3⟩ := XB_10.out.four; have yBl := heap_lt XB_10.out.cells; obtain ⟨yC0, yC1, yC2, yC3⟩ := XC_10.out.four; have yCl := heap_lt XC_10.out.cells; clear hC hP))
                  have hl := F10.out.lt
                  have f := F10.out.fin_new (x := V.heap.size) (.cells #[.int .i64 k3, .int .i64 n3, .string s3, .slice A3 m3 c3, .int .i64 k7, .int .i64 n7, .string s7, .slice A7 m7 c7, .int .i64 k9, .int .i64 n9, .string s9, .slice A9 m9 c9] 33) (Nf.three (k := 4) (n := (n5 : Int)) (s := ⟨#[]⟩) (World.alloc_heap_new w10 _) ⟨hl, by omega⟩ (by decide) (XA_10.out.alloc _).tree (XB_10.out.alloc _).tree (XC_10.out.alloc _).tree) rfl
                  refine bodyPost_ret (ret_N rfl _ rfl f.1) rfl f.2
end Go.Proofs.YtlfpaemfhanpiaaGreatDoor

namespace Go.Proofs.YtlfpaemfhanpiaaGreatDoor
open Go Go.RowKit Go.Proofs
attribute [local go_sem] Oper.semAt_some field0 field1 field2 field3

theorem Fr.cell {V w : World} {K : Pc} {r : List LX.Tok} {lv b i : Nat} (h : Fr V w K r lv) (hb : V.heap.size < b) (v : Value) : Fr V (w.setCell ⟨b, i, none⟩ v) K r lv := by
  have hg := h.g
  have ht := h.tb
  have hm := h.mb
  have hk : ∀ x, x ≠ b → (w.setCell ⟨b, i, none⟩ v).heap[x]? = w.heap[x]? := fun x hx => Below.heap_setCell _ _ _ _ hx
  exact ⟨h.chg.trans ((Chg.refl (· = b) w).setCell (p := ⟨b, i, none⟩) (fun _ => rfl) v) (fun x hx e => absurd hx (by have := h.lt; omega)), h.pat.set4 (by omega) (by omega) (by omega) (fun x hx _ => hk x hx) (by simp [World.setCell]), (hk _ (by omega)).trans h.box, hg, ht, hm⟩
theorem Nf.cell {V w : World} {b i : Nat} {t : TY.Nd} {u : Value} (h : Nf (Sx V b) w t u) (v : Value) : Nf (Sx V b) (w.setCell ⟨b, i, none⟩ v) t u := h.keep (fun c hc _ => Below.heap_setCell _ _ _ _ hc.2) (by simp [World.setCell])
set_option maxRecDepth 100000 in
set_option maxHeartbeats 8000000 in
theorem assignment_any (K : Pc) (lv : Nat) (E : PS.Ex) (hE : PFn 77 #[.pointer (some ⟨K.g, 0, none⟩)] K lv (E lv)) :
    PFn 149 #[.pointer (some ⟨K.g, 0, none⟩)] K lv (PS.asgn E lv) := by
  intro V ts hlv h hR
  have F1 := Lib.hid (Fr.begin h)
  obtain ⟨t, u, rfl⟩ := h.good.ne
  have hgd := h.good
  have HN := Lib.hid (fun W => isName_any W t)
  have HE := Lib.hid (fun (W : World) (b : Bool) (hW : PAt W K (t :: u) lv) => need_any W K t u lv b hW)
  obtain ⟨R, hRR⟩ : ∃ R, PS.asgn E lv (t :: u) = R := ⟨_, rfl⟩
  rw [hRR] at hR ⊢
  clear h
  by_cases h1 : PS.isName t = true
  · rw [PS.asgn, if_pos h1] at hRR
    have hgu := PS.isName_text hgd h1
    have hsz := name_len hgd h1
    rw [h1] at HN
    simp only [PS.semi] at hRR
    clear h1
    go_enter Tryz.func149, Tryz.ntmps149
    go_wp2_with (first
      | (go_at_call 60; refine (next_any _ K t u lv F1.out.pat).mono ?_; rintro e w2 ⟨rfl, hb2⟩; have F2 := Lib.hid (F1.out.below hb2); clear hb2 F1)
      | (go_at_call 104; refine (HN.out _).mono ?_; clear HN; rintro e w3 ⟨rfl, hb3⟩; have F3 := Lib.hid (F2.out.below hb3); clear hb3)
      | (go_at_call 59; refine (HE.out _ _ F3.out.pat).mono ?_; clear HE; rintro e w4 ⟨rfl, hb4⟩; have F4 := Lib.hid (F3.out.below hb4); clear hb4)
      | (go_at_call 79; refine (take_any _ K t u lv F4.out.pat hgu).mono ?_; rintro e w5 ⟨rfl, hP, hC⟩; have F5 := Lib.hid (F4.out.step hC hP); have l5 := F5.out.lt; have F6 := Lib.hid (F5.out.alloc (.cells #[.int .i64 1, .int .i64 0, .string (PS.bs t.text), .slice none 0 0] 33)); have B6 := Lib.hid (World.alloc_heap_new w5 (.cells #[.int .i64 1, .int .i64 0, .string (PS.bs t.text), .slice none 0 0] 33)); clear hC hP))
    cases hq : PS.must PS.yAsg u with
    | out => rw [hq] at hRR; exact absurd hRR.symm hR
    | err pp cc =>
      rw [hq] at hRR
      have hRR : PS.PR.err pp cc = R := hRR
      obtain rfl := hRR
      have HM := Lib.hid (must_at F6.out.pat (by decide) hq)
      clear hq
      go_wp2_with (first
        | (go_at_call 76; refine HM.out.mono ?_; clear HM; rintro e wz ⟨hC, rfl⟩))
      exact ⟨rfl, F6.out.chg.trans hC (fun _ _ e => e), rfl⟩
    | ok a r7 =>
      rw [hq] at hRR
      simp only [PS.PR.bind_ok] at hRR
      have HM := Lib.hid (must_at F6.out.pat (by decide) hq)
      clear hq
      go_wp2_with (first
        | (go_at_call 76; refine HM.out.mono ?_; clear HM; rintro e w7 ⟨hC, rfl, hP⟩; have F7 := Lib.hid (F6.out.step hC hP); have B7 := Lib.hid ((hC.block _ (heap_lt B6.out) (by have := F6.out.g; omega)).trans B6.out); clear hC hP))
      have b7 := heap_lt B7.out
      cases hq : E lv r7 with
      | out => rw [hq] at hRR; exact absurd hRR.symm hR
      | err pp cc =>
        rw [hq] at hRR
        have hRR : PS.PR.err pp cc = R := hRR
        obtain rfl := hRR
        have HM := Lib.hid (hE.at_ hq hlv err_ne _ F7.out.pat)
        clear hq
        go_wp2_with (first
          | (go_at_call 77; refine HM.out.mono ?_; clear HM; rintro e wz ⟨hC, rfl⟩))
        exact ⟨rfl, F7.out.chg.trans hC (fun _ _ e => e), rfl⟩
      | ok x r8 =>
        rw [hq] at hRR
        simp only [PS.PR.bind_ok] at hRR
        have HM := Lib.hid (hE.at_ hq hlv ok_ne _ F7.out.pat)
        clear hq
        go_wp2_with (first
          | (go_at_call 77; refine HM.out.mono ?_; clear HM; rintro e w8 ⟨hC, v, rfl, hv, hP⟩; obtain ⟨k8, n8, s8, A8, m8, c8, rfl⟩ := hv.shape; have F8 := Lib.hid (F7.out.step hC hP); have B8 := Lib.hid ((hC.block _ b7 (by have := F7.out.g; omega)).trans B7.out); have V8 := Lib.hid (hv.sx (x := w5.heap.size) F7.out.lt (.inl b7)); have b8 := heap_lt B8.out; have f8 : w8.frozen? ⟨w5.heap.size, 3, none⟩ = false := by simp [World.frozen?, B8.out]
             obtain ⟨y0, y1, y2, y3, _⟩ := tok_cells B8.out; clear hC hP hv))
        obtain ⟨W9, hW9⟩ : ∃ W, (w8.setCell ⟨w5.heap.size, 3, none⟩ (.slice (some ⟨w8.heap.size, 0, none⟩) 1 1)).alloc (.cells #[.int .i64 k8, .int .i64 n8, .string s8, .slice A8 m8 c8] 33) = W := ⟨_, rfl⟩
        rw [hW9]
        have z9 : (w8.setCell ⟨w5.heap.size, 3, none⟩ (.slice (some ⟨w8.heap.size, 0, none⟩) 1 1)).heap.size = w8.heap.size := by simp [World.setCell]
        have F9 := Lib.hid (show Fr V W9 K r8 lv from hW9 ▸ (F8.out.cell l5 _).alloc _)
        have B9 : W9.heap[w5.heap.size]? = some (.cells #[.int .i64 1, .int .i64 0, .string (PS.bs t.text), .slice (some ⟨w8.heap.size, 0, none⟩) 1 1] 33 (0, 0)) := by rw [← hW9]; exact (Below.heap_alloc _ _ _ (by rw [z9]; exact b8)).trans (row_set B8.out _)
        have G9 : W9.heap[w8.heap.size]? = some (.cells #[.int .i64 k8, .int .i64 n8, .string s8, .slice A8 m8 c8] 33 (0, 0)) := by
          have hh := World.alloc_heap_new (w8.setCell ⟨w5.heap.size, 3, none⟩ (.slice (some ⟨w8.heap.size, 0, none⟩) 1 1)) (.cells #[.int .i64 k8, .int .i64 n8, .string s8, .slice A8 m8 c8] 33)
          rw [hW9, z9] at hh
          exact hh
        have V9 : Nf (Sx V w5.heap.size) W9 x (ndv k8 n8 s8 (.slice A8 m8 c8)) := hW9 ▸ (V8.out.cell _).below ((Below.refl _ _).alloc (Nat.le_refl _) _)
        have T9 := Lib.hid (Nf.one (k := 1) (n := 0) (s := PS.bs t.text) G9 ⟨by omega, by omega⟩ hsz V9)
        have B9 := Lib.hid B9
        clear hW9 z9 G9 V9 y0 y1 y2 y3 f8
        cases hq : PS.must PS.ySemi r8 with
        | out => rw [hq] at hRR; exact absurd hRR.symm hR
        | err pp cc =>
          rw [hq] at hRR
          have hRR : PS.PR.err pp cc = R := hRR
          obtain rfl := hRR
          have HM := Lib.hid (must_at F9.out.pat (by decide) hq)
          clear hq
          go_wp2_with (first
            | (go_at_call 76; refine HM.out.mono ?_; clear HM; rintro e wz ⟨hC, rfl⟩))
          exact ⟨rfl, F9.out.chg.trans hC (fun _ _ e => e), rfl⟩
        | ok a2 r10 =>
          rw [hq] at hRR
          simp only [PS.PR.bind_ok] at hRR
          obtain rfl := hRR
          have HM := Lib.hid (must_at F9.out.pat (by decide) hq)
          clear hq
          go_wp2_with (first
            | (go_at_call 76; refine HM.out.mono ?_; clear HM; rintro e w10 ⟨hC, rfl, hP⟩; have F10 := Lib.hid (F9.out.step hC hP); have B10 := Lib.hid ((hC.block _ (heap_lt B9.out) (by have := F9.out.g; omega)).trans B9.out); have T10 := Lib.hid (T9.out.step hC F9.out.g); obtain ⟨q0, q1, q2, q3, z0, z1, z2, z3⟩ := F10.out.cells; obtain ⟨i1, i2, i3, i4⟩ := F10.out.nums; obtain ⟨y0, y1, y2, y3, _⟩ := tok_cells B10.out; clear hC hP))
          have f := F10.out.fin T10.out [] rfl
          refine bodyPost_ret (ret_N rfl _ rfl f.1) rfl f.2
  · have h1' : PS.isName t = false := by simpa using h1
    rw [PS.asgn, if_neg h1] at hRR
    obtain rfl := hRR
    rw [h1'] at HN
    clear h1 h1' hR
    go_enter Tryz.func149, Tryz.ntmps149
    go_wp2_with (first
      | (go_at_call 60; refine (next_any _ K t u lv F1.out.pat).mono ?_; rintro e w2 ⟨rfl, hb2⟩; have F2 := Lib.hid (F1.out.below hb2); clear hb2 F1)
      | (go_at_call 104; refine (HN.out _).mono ?_; clear HN; rintro e w3 ⟨rfl, hb3⟩; have F3 := Lib.hid (F2.out.below hb3); clear hb3)
      | (go_at_call 59; refine (HE.out _ _ F3.out.pat).mono ?_; clear HE; rintro e w4 ⟨rfl, hb4⟩; have F4 := Lib.hid (F3.out.below hb4); clear hb4))
    exact ⟨rfl, F4.out.chg, rfl⟩
end Go.Proofs.YtlfpaemfhanpiaaGreatDoor
