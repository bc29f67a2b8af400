/-
  The parser's statement; block and statement at every fuel. Conditions: the parser stands, with the map of the statements.
  The parser's declared. Conditions: the parser stands; the names that are declared lie in rows.
  The parser between declarations: its rows of names; the append of a name. No function of the program.
  The map of the statements' functions, made.
-/
import Derived.Test.YtlfpaemfhanpiaaGreatDoorK27
import Derived.Deep.RegionHeld3
import Derived.Deep.QuietTactic
import Derived.Deep.AppendLies
import Derived.Carry

namespace Go.Proofs.YtlfpaemfhanpiaaGreatDoor
open Go Go.RowKit Go.Proofs
attribute [local go_sem] Oper.semAt_some field0 field1 field2 field3

theorem PAt.cell5 {V : World} {K : Pc} {ts : List LX.Tok} {lv : Nat} (h : PAt V K ts lv) : V.cell? ⟨K.g, 5, none⟩ = some K.mv := by
  obtain ⟨off, c, h1, _⟩ := h
  exact cell_of_row V _ 5 _ _ (0, 0) h1
theorem PAt.look {V : World} {K : Pc} {ts : List LX.Tok} {lv : Nat} (h : PAt V K ts lv) (hmo : PM.MoOk K.mo) : PM.Mp V K.mb PM.stmL := by
  obtain ⟨off, c, _, _, _, h4, _⟩ := h
  exact hmo V K.mb h4.map
set_option maxRecDepth 100000 in
set_option maxHeartbeats 8000000 in
theorem stm_call {F : FuncId} (eg : ∀ args w, (callFunc F args).run Tryz.prog w = .ok (.enter F args) w) (K : Pc) (lv : Nat) (hmv : K.mv = .map (some K.mb)) (hmo : PM.MoOk K.mo) (V : World) (t : LX.Tok) (u : List LX.Tok) (hlv : lv ≤ 20) (h : PAt V K (t :: u) lv) (hf : PM.found PM.stmL (PS.bs t.text) = some (PM.fnD (F + 1)))
    (M : List LX.Tok → PS.PR TY.Nd) (hF : PFn F #[.pointer (some ⟨K.g, 0, none⟩)] K lv M) (R : PS.PR TY.Nd) (hM : M (t :: u) = R) (hR : R ≠ .out) : Calls Tryz.prog 128 #[.pointer (some ⟨K.g, 0, none⟩)] V (PRes V K lv R) := by
  have F1 := Lib.hid (Fr.begin h)
  have hsz : (PS.bs t.text).size ≤ 1000000 := h.good.txt
  have HL := Lib.hid (fun (W : World) (hW : PAt W K (t :: u) lv) => (hW.look hmo).look (PS.bs t.text) hsz (n := F + 1) (y := true) (.inl ⟨rfl, hf⟩))
  have hfv : PM.fnV (F + 1) = .func (.func F) #[] #[] := rfl
  rw [hfv] at HL
  have H5 := Lib.hid (fun (W : World) (hW : PAt W K (t :: u) lv) => hmv ▸ hW.cell5)
  clear h hf hfv hmo hmv hsz
  go_enter Tryz.func128, Tryz.ntmps128
  go_wp2_with fail
  have P1 := F1.out.drew.pat
  have c5 := H5.out _ P1
  go_region_held3 (fun W => W.cell? ⟨K.g, 5, none⟩ = some (.map (some K.mb)))
    (first | exact H5.out _ P1 | exact H5.out _ P2)
    (first
      | (go_at_call 60; refine (next_any _ K t u lv P1).mono ?_; rintro e w2 ⟨rfl, hb2⟩; have F2 := Lib.hid (F1.out.drew.below hb2); have P2 := F2.out.pat; have l2 := HL.out _ P2; clear hb2))
  cases R with
  | out => exact absurd rfl hR
  | err q d =>
    have HD := Lib.hid (hF.at_ hM hlv err_ne _ P2)
    clear hF hM hR
    go_wp2_with (first
      | (refine HD.out.mono ?_; clear HD; rintro e w3 ⟨hC, rfl⟩))
    exact ⟨rfl, F2.out.chg.trans hC (fun _ _ e => e), rfl⟩
  | ok n r =>
    have HD := Lib.hid (hF.at_ hM hlv ok_ne _ P2)
    clear hF hM hR
    go_wp2_with (first
      | (refine HD.out.mono ?_; clear HD; rintro e w3 ⟨hC, v, rfl, hv, hP⟩; obtain ⟨k2, n2, s2, A2, m2, c2, rfl⟩ := hv.shape; have F3 := Lib.hid (F2.out.step hC hP); have V3 := Lib.hid (hv.sx (x := V.heap.size) F2.out.lt (.inl F2.out.lt)); obtain ⟨q0, q1, q2, q3, r0, r1, r2, r3⟩ := F3.out.cells; obtain ⟨i1, i2, i3, i4⟩ := F3.out.nums; clear hv hC hP))
    have f := F3.out.fin V3.out [] rfl
    refine bodyPost_ret (ret_N rfl _ rfl f.1) rfl f.2
set_option maxRecDepth 100000 in
set_option maxHeartbeats 8000000 in
theorem stm_else (K : Pc) (lv : Nat) (hmv : K.mv = .map (some K.mb)) (hmo : PM.MoOk K.mo) (V : World) (t : LX.Tok) (u : List LX.Tok) (hlv : lv ≤ 20) (h : PAt V K (t :: u) lv) (hf : PM.found PM.stmL (PS.bs t.text) = none)
    (M : List LX.Tok → PS.PR TY.Nd) (hF : PFn 149 #[.pointer (some ⟨K.g, 0, none⟩)] K lv M) (R : PS.PR TY.Nd) (hM : M (t :: u) = R) (hR : R ≠ .out) : Calls Tryz.prog 128 #[.pointer (some ⟨K.g, 0, none⟩)] V (PRes V K lv R) := by
  have F1 := Lib.hid (Fr.begin h)
  have hsz : (PS.bs t.text).size ≤ 1000000 := h.good.txt
  have HL := Lib.hid (fun (W : World) (hW : PAt W K (t :: u) lv) => (hW.look hmo).look (PS.bs t.text) hsz (n := 0) (y := false) (.inr ⟨rfl, rfl, hf⟩))
  have hfv : PM.fnV 0 = .nilFunc := rfl
  rw [hfv] at HL
  have H5 := Lib.hid (fun (W : World) (hW : PAt W K (t :: u) lv) => hmv ▸ hW.cell5)
  clear h hf hfv hmo hmv hsz
  go_enter Tryz.func128, Tryz.ntmps128
  go_wp2_with fail
  have P1 := F1.out.drew.pat
  have c5 := H5.out _ P1
  go_region_held3 (fun W => W.cell? ⟨K.g, 5, none⟩ = some (.map (some K.mb)))
    (first | exact H5.out _ P1 | exact H5.out _ P2)
    (first
      | (go_at_call 60; refine (next_any _ K t u lv P1).mono ?_; rintro e w2 ⟨rfl, hb2⟩; have F2 := Lib.hid (F1.out.drew.below hb2); have P2 := F2.out.pat; have l2 := HL.out _ P2; clear hb2))
  cases R with
  | out => exact absurd rfl hR
  | err q d =>
    have HD := Lib.hid (hF.at_ hM hlv err_ne _ P2)
    clear hF hM hR
    go_wp2_with (first
      | (go_at_call 149; refine HD.out.mono ?_; clear HD; rintro e w3 ⟨hC, rfl⟩))
    exact ⟨rfl, F2.out.chg.trans hC (fun _ _ e => e), rfl⟩
  | ok n r =>
    have HD := Lib.hid (hF.at_ hM hlv ok_ne _ P2)
    clear hF hM hR
    go_wp2_with (first
      | (go_at_call 149; refine HD.out.mono ?_; clear HD; rintro e w3 ⟨hC, v, rfl, hv, hP⟩; obtain ⟨k2, n2, s2, A2, m2, c2, rfl⟩ := hv.shape; have F3 := Lib.hid (F2.out.step hC hP); have V3 := Lib.hid (hv.sx (x := V.heap.size) F2.out.lt (.inl F2.out.lt)); obtain ⟨q0, q1, q2, q3, r0, r1, r2, r3⟩ := F3.out.cells; obtain ⟨i1, i2, i3, i4⟩ := F3.out.nums; clear hv hC hP))
    have f := F3.out.fin V3.out [] rfl
    refine bodyPost_ret (ret_N rfl _ rfl f.1) rfl f.2
theorem bs_inj {a b : PS.Bs} : PS.bs a = PS.bs b ↔ a = b := by
  refine ⟨fun h => ?_, fun h => by rw [h]⟩
  have := congrArg (fun x : ByteArray => x.data.toList) h
  simpa using this
theorem found_none {s : PS.Bs} (h : ∀ w ∈ [PS.wIf, PS.wWhile, PS.wSend, PS.wTimer, PS.wCancel, PS.wSync, PS.wStop, PS.wReply, PS.wFail], s ≠ w) : PM.found PM.stmL (PS.bs s) = none := by
  have hn : ∀ w ∈ [PS.wIf, PS.wWhile, PS.wSend, PS.wTimer, PS.wCancel, PS.wSync, PS.wStop, PS.wReply, PS.wFail], decide (PS.bs w = PS.bs s) = false := fun w hw => decide_eq_false fun e => h w hw (bs_inj.1 e).symm
  simp only [PM.found, PM.stmL, List.reverse_cons, List.reverse_nil, List.nil_append, List.cons_append, List.find?_cons, List.find?_nil]
  rw [hn PS.wFail (by simp), hn PS.wReply (by simp), hn PS.wStop (by simp), hn PS.wSync (by simp), hn PS.wCancel (by simp), hn PS.wTimer (by simp), hn PS.wSend (by simp), hn PS.wWhile (by simp), hn PS.wIf (by simp)]
  rfl
theorem statement_any (K : Pc) (lv : Nat) (hmv : K.mv = .map (some K.mb)) (hmo : PM.MoOk K.mo) (E : PS.Ex) (g : PS.RecS) (hE : PFn 77 #[.pointer (some ⟨K.g, 0, none⟩)] K lv (E lv)) (hB : PFn 78 #[.pointer (some ⟨K.g, 0, none⟩)] K lv (g .bl lv)) :
    PFn 128 #[.pointer (some ⟨K.g, 0, none⟩)] K lv (PS.stm E g lv) := by
  intro V ts hlv h hR
  obtain ⟨t, u, rfl⟩ := h.good.ne
  obtain ⟨R, hRR⟩ : ∃ R, PS.stm E g lv (t :: u) = R := ⟨_, rfl⟩
  rw [hRR] at hR ⊢
  simp only [PS.stm] at hRR
  by_cases h0 : t.text = PS.wIf
  · rw [if_pos h0] at hRR
    exact stm_call (enters_of Tryz.func45 (by kernel_rfl) rfl) K lv hmv hmo V t u hlv h (by rw [h0]; rfl) (onW PS.wIf (PS.pIf E g lv)) (ifElse_any K lv E g hE hB) R (by rw [← hRR]; exact if_pos h0) hR
  rw [if_neg h0] at hRR
  by_cases h1 : t.text = PS.wWhile
  · rw [if_pos h1] at hRR
    exact stm_call (enters_of Tryz.func46 (by kernel_rfl) rfl) K lv hmv hmo V t u hlv h (by rw [h1]; rfl) (onW PS.wWhile (PS.pWhile E g lv)) (while_any K lv E g hE hB) R (by rw [← hRR]; exact if_pos h1) hR
  rw [if_neg h1] at hRR
  by_cases h2 : t.text = PS.wSend
  · rw [if_pos h2] at hRR
    exact stm_call (enters_of Tryz.func47 (by kernel_rfl) rfl) K lv hmv hmo V t u hlv h (by rw [h2]; rfl) (onW PS.wSend (PS.pSend E lv)) (send_any K lv E hE) R (by rw [← hRR]; exact if_pos h2) hR
  rw [if_neg h2] at hRR
  by_cases h3 : t.text = PS.wTimer
  · rw [if_pos h3] at hRR
    exact stm_call (enters_of Tryz.func48 (by kernel_rfl) rfl) K lv hmv hmo V t u hlv h (by rw [h3]; rfl) (onW PS.wTimer (PS.pTimer 5)) (stm1_any K lv) R (by rw [← hRR]; exact if_pos h3) hR
  rw [if_neg h3] at hRR
  by_cases h4 : t.text = PS.wCancel
  · rw [if_pos h4] at hRR
    exact stm_call (enters_of Tryz.func50 (by kernel_rfl) rfl) K lv hmv hmo V t u hlv h (by rw [h4]; rfl) (onW PS.wCancel (PS.pTimer 6)) (stm2_any K lv) R (by rw [← hRR]; exact if_pos h4) hR
  rw [if_neg h4] at hRR
  by_cases h5 : t.text = PS.wSync
  · rw [if_pos h5] at hRR
    exact stm_call (enters_of Tryz.func51 (by kernel_rfl) rfl) K lv hmv hmo V t u hlv h (by rw [h5]; rfl) (onW PS.wSync (PS.pSimple 7)) (stm3_any K lv) R (by rw [← hRR]; exact if_pos h5) hR
  rw [if_neg h5] at hRR
  by_cases h6 : t.text = PS.wStop
  · rw [if_pos h6] at hRR
    exact stm_call (enters_of Tryz.func53 (by kernel_rfl) rfl) K lv hmv hmo V t u hlv h (by rw [h6]; rfl) (onW PS.wStop (PS.pSimple 10)) (stm4_any K lv) R (by rw [← hRR]; exact if_pos h6) hR
  rw [if_neg h6] at hRR
  by_cases h7 : t.text = PS.wReply
  · rw [if_pos h7] at hRR
    exact stm_call (enters_of Tryz.func54 (by kernel_rfl) rfl) K lv hmv hmo V t u hlv h (by rw [h7]; rfl) (onW PS.wReply (PS.pReply E lv)) (reply_any K lv E hE) R (by rw [← hRR]; exact if_pos h7) hR
  rw [if_neg h7] at hRR
  by_cases h8 : t.text = PS.wFail
  · rw [if_pos h8] at hRR
    exact stm_call (enters_of Tryz.func55 (by kernel_rfl) rfl) K lv hmv hmo V t u hlv h (by rw [h8]; rfl) (onW PS.wFail (PS.pFail E lv)) (fault_any K lv E hE) R (by rw [← hRR]; exact if_pos h8) hR
  rw [if_neg h8] at hRR
  refine stm_else K lv hmv hmo V t u hlv h (found_none fun w hw => ?_) (PS.asgn E lv) (assignment_any K lv E hE) R hRR hR
  simp only [List.mem_cons, List.not_mem_nil, or_false] at hw
  rcases hw with rfl | rfl | rfl | rfl | rfl | rfl | rfl | rfl | rfl <;> assumption
/-- Block and statement do as the model at this fuel. -/
structure AllS (E : PS.Ex) (f : Nat) (K : Pc) (lv : Nat) : Prop where
  bl : PFn 78 #[.pointer (some ⟨K.g, 0, none⟩)] K lv (PS.ps E f .bl lv)
  st : PFn 128 #[.pointer (some ⟨K.g, 0, none⟩)] K lv (PS.ps E f .st lv)
theorem bind_assoc {α β γ : Type} (x : PS.PR α) (f : α → List LX.Tok → PS.PR β) (k : β → List LX.Tok → PS.PR γ) : (x.bind f).bind k = x.bind fun a r => (f a r).bind k := by cases x <;> rfl
theorem allS (K : Pc) (hmv : K.mv = .map (some K.mb)) (hmo : PM.MoOk K.mo) (E : PS.Ex) (HE : ∀ lv ts, PS.Short ts.length (E lv ts)) (hE : ∀ lv, PFn 77 #[.pointer (some ⟨K.g, 0, none⟩)] K lv (E lv)) : ∀ (f : Nat) (lv : Nat), AllS E f K lv := by
  intro f
  induction f using Nat.strongRecOn with
  | ind f ih =>
    intro lv
    cases f with
    | zero => exact ⟨fun _ _ _ _ h => absurd rfl h, fun _ _ _ _ h => absurd rfl h⟩
    | succ f =>
      refine ⟨?_, statement_any K lv hmv hmo E (PS.ps E f) (hE lv) (ih f (Nat.lt_succ_self f) lv).bl⟩
      have hq := blockP_any K lv (PS.ps E f (.sq []) (lv + 1)) (sequence_any K (lv + 1) E HE f fun f' h => (ih f' (by omega) (lv + 1)).st)
      intro V ts hlv h hR
      have e : PS.ps E (f + 1) .bl lv ts = ((PS.opn PS.yLB lv ts).bind fun _ u => PS.ps E f (.sq []) (lv + 1) u).bind fun x r => (PS.must PS.yRB r).bind fun _ r => .ok x r := by
        rw [bind_assoc]
        rfl
      rw [e] at hR ⊢
      exact hq V ts hlv h hR
/-- The block of a handler. -/
theorem block_of (K : Pc) (hmv : K.mv = .map (some K.mb)) (hmo : PM.MoOk K.mo) (F lv : Nat) : PFn 78 #[.pointer (some ⟨K.g, 0, none⟩)] K lv (PS.ps (PS.pe F (.ex 1)) F .bl lv) :=
  (allS K hmv hmo (PS.pe F (.ex 1)) (fun lv ts => PS.pe_short F (.ex 1) lv ts) (fun lv => (allE F K lv).e1) F lv).bl
end Go.Proofs.YtlfpaemfhanpiaaGreatDoor

namespace Go.Proofs.YtlfpaemfhanpiaaGreatDoor
open Go Go.RowKit Go.Proofs
attribute [local go_sem] Oper.semAt_some field0 field1 field2 field3

/-- v is a row of the call's own, at block lo or later, that holds the names l. -/
def Dl (W : World) (lo : Nat) (v : Value) (l : List PS.Bs) : Prop := W.ownsRow lo 9 1 v l.length (l.map fun s => Value.string (PS.bs s))
theorem Dl.keep {W W' : World} {lo : Nat} {v : Value} {l : List PS.Bs} (h : Dl W lo v l) (hk : ∀ b, v.ownBlock = some b → W'.heap[b]? = W.heap[b]?) : Dl W' lo v l := own_of_block h hk
theorem Dl.form {W : World} {lo : Nat} {v : Value} {l : List PS.Bs} (h : Dl W lo v l) : ∃ A c, v = .slice A l.length c ∧ SRow W A l := by
  obtain ⟨A, c, e, _, _⟩ := own_slice h
  refine ⟨A, c, e, ?_⟩
  subst e
  rcases Nat.eq_zero_or_pos l.length with h0 | h0
  · exact .inl (List.eq_nil_of_length_eq_zero h0)
  · obtain ⟨g, cap, hv, hlo, hlt⟩ := World.ownsRow.form h h0
    injection hv with e1 _ _
    refine .inr ⟨g, 0, e1, hlt, fun j s hj => ?_⟩
    have := World.ownsRow.cells (v := .slice A l.length c) h (g := g) (by rw [e1]; rfl) j (.string (PS.bs s)) (by rw [List.getElem?_map, hj]; rfl)
    rw [Addr.add_lit] at this
    exact this
/-- The next name, declared for the first time. -/
def declM (d v : List PS.Bs) : List LX.Tok → PS.PR PS.Bs
  | [] => .out
  | t :: u => if PS.isName t = true then (if t.text ∈ d ∨ t.text ∈ v then .err t.pos 4 else if d.length + v.length = 16 then .err t.pos 2 else .ok t.text u) else .err t.pos 10
theorem PAt.cell23 {V : World} {K : Pc} {ts : List LX.Tok} {lv : Nat} (h : PAt V K ts lv) : V.cell? ⟨K.g, 2, none⟩ = some K.dv ∧ V.cell? ⟨K.g, 3, none⟩ = some K.vv := by
  obtain ⟨off, c, h1, _⟩ := h
  exact ⟨cell_of_row V _ 2 _ _ (0, 0) h1, cell_of_row V _ 3 _ _ (0, 0) h1⟩
set_option maxRecDepth 100000 in
set_option maxHeartbeats 16000000 in
theorem declared_any (V : World) (K : Pc) (ts : List LX.Tok) (lv lo : Nat) (d v : List PS.Bs) (h : PAt V K ts lv) (hd : Dl V lo K.dv d) (hv : Dl V lo K.vv v) (hsm : d.length ≤ 16 ∧ v.length ≤ 16) :
    Calls Tryz.prog 81 #[.pointer (some ⟨K.g, 0, none⟩)] V (URes V K lv (fun s : PS.Bs => .string (PS.bs s)) (declM d v ts)) := by
  obtain ⟨t, u, rfl⟩ := h.good.ne
  have hgd := h.good
  obtain ⟨Ad, cd, ed, hsd⟩ := hd.form
  obtain ⟨Av, cv, ev, hsv⟩ := hv.form
  have HC := Lib.hid (fun (W : World) (hW : Below V.heap.size V W) => sContains_any W Ad d d.length cd t.text rfl (by omega) (hsd.keep hW))
  have HV := Lib.hid (fun (W : World) (hW : Below V.heap.size V W) => sContains_any W Av v v.length cv t.text rfl (by omega) (hsv.keep hW))
  have H23 := Lib.hid (fun (W : World) (hW : Below V.heap.size V W) => (show W.cell? ⟨K.g, 2, none⟩ = some (.slice Ad d.length cd) ∧ W.cell? ⟨K.g, 3, none⟩ = some (.slice Av v.length cv) from ed ▸ ev ▸ (h.keep hW).cell23))
  have HP := Lib.hid (fun (W : World) (hW : Below V.heap.size V W) => h.keep hW)
  have HN := Lib.hid (fun W => isName_any W t)
  simp only [declM]
  clear h hd hv hsd hsv ed ev
  by_cases h1 : PS.isName t = true
  · have hgu := PS.isName_text hgd h1
    rw [if_pos h1]
    rw [h1] at HN
    clear h1
    obtain ⟨m, hm⟩ : ∃ m, d.length = m := ⟨_, rfl⟩
    obtain ⟨n, hn⟩ : ∃ n, v.length = n := ⟨_, rfl⟩
    rw [hm, hn] at hsm
    rw [hm] at HC H23
    rw [hn] at HV H23
    rw [hm, hn]
    clear hm hn
    obtain ⟨R, hRR⟩ : ∃ R : PS.PR PS.Bs, (if t.text ∈ d ∨ t.text ∈ v then .err t.pos 4 else if m + n = 16 then .err t.pos 2 else .ok t.text u) = R := ⟨_, rfl⟩
    rw [hRR]
    have hm16 := hsm.1
    have hn16 := hsm.2
    go_enter Tryz.func81, Tryz.ntmps81
    go_wp2_with (first
      | (go_at_call 60; refine (next_any _ K t u lv (HP.out _ (Below.refl _ _))).mono ?_; rintro e w2 ⟨rfl, hb2⟩; have B2 := Lib.hid (hb2.alloc hb2.size (.cells #[.int .i64 (t.kind : Int), .int .i64 (t.pos : Int), .string (PS.bs t.text), .int .i64 (t.num : Int)] 86)); have T2 := Lib.hid (World.alloc_heap_new w2 (.cells #[.int .i64 (t.kind : Int), .int .i64 (t.pos : Int), .string (PS.bs t.text), .int .i64 (t.num : Int)] 86)); clear hb2)
      | (go_at_call 104; refine (HN.out _).mono ?_; clear HN; rintro e w3 ⟨rfl, hb3⟩; have B3 := Lib.hid (B2.out.trans (hb3.mono B2.out.size)); have T3 := Lib.hid ((hb3.block _ (heap_lt T2.out)).trans T2.out); clear hb3)
      | (go_at_call 59; refine (need_any _ K t u lv true (HP.out _ B3.out)).mono ?_; rintro e w4 ⟨rfl, hb4⟩; have B4 := Lib.hid (B3.out.trans (hb4.mono B3.out.size)); have T4 := Lib.hid ((hb4.block _ (heap_lt T3.out)).trans T3.out); clear hb4))
    obtain ⟨c2, c3⟩ := H23.out _ B4.out
    obtain ⟨y0, y1, y2, y3, _⟩ := tok_cells T4.out
    have HC4 := Lib.hid (fun q => HC.out (w4.drewN q) (below_drewN' B4.out q))
    have HV4 := Lib.hid (fun q => HV.out (w4.drewN q) (below_drewN' B4.out q))
    clear HC HV hsm
    by_cases hd : t.text ∈ d
    · rw [if_pos (.inl hd)] at hRR
      obtain rfl := hRR
      simp only [hd, decide_true] at HC4
      clear HV4 c3
      go_quiet (first | (go_at_call 105; refine Calls.quiet_of_same (HC4.out _)))
      go_wp2_with fail
      have B5 := Lib.hid (below_drewN' B4.out nq)
      generalize w4.drewN nq = w5 at *
      refine (fail_any w5 K t u lv 4 (HP.out _ B5.out)).mono ?_
      rintro e w6 ⟨rfl, hb6⟩
      have B6 := B5.out.trans (hb6.mono B5.out.size)
      clear hb6
      go_wp2_with fail
      exact ⟨rfl, chgB B6, rfl⟩
    have hd' : decide (t.text ∈ d) = false := decide_eq_false hd
    simp only [hd'] at HC4
    by_cases hv : t.text ∈ v
    · rw [if_pos (.inr hv)] at hRR
      obtain rfl := hRR
      simp only [hv, decide_true] at HV4
      go_quiet (first | (go_at_call 105; refine Calls.quiet_of_same (HC4.out _)) | (go_at_call 105; refine Calls.quiet_of_same (HV4.out _)))
      go_wp2_with fail
      have B5 := Lib.hid (below_drewN' B4.out nq)
      generalize w4.drewN nq = w5 at *
      refine (fail_any w5 K t u lv 4 (HP.out _ B5.out)).mono ?_
      rintro e w6 ⟨rfl, hb6⟩
      have B6 := B5.out.trans (hb6.mono B5.out.size)
      clear hb6
      go_wp2_with fail
      exact ⟨rfl, chgB B6, rfl⟩
    have hv' : decide (t.text ∈ v) = false := decide_eq_false hv
    simp only [hv'] at HV4
    rw [if_neg (fun h => h.elim hd hv)] at hRR
    go_quiet (first | (go_at_call 105; refine Calls.quiet_of_same (HC4.out _)) | (go_at_call 105; refine Calls.quiet_of_same (HV4.out _)))
    have B5 := Lib.hid (below_drewN' B4.out nq)
    obtain ⟨c2, c3⟩ := H23.out _ B5.out
    generalize w4.drewN nq = w5 at *
    clear HC4 HV4 hd hv hd' hv'
    go_wp2_with fail
    have HP5 := Lib.hid (fun q => HP.out (w5.drewN q) (below_drewN' B5.out q))
    have BB := Lib.hid (fun q => below_drewN' B5.out q)
    clear B2 B3 B4 T2 T3 T4 H23 y0 y1 y2 y3
    by_cases he : m + n = 16
    · rw [if_pos he] at hRR
      obtain rfl := hRR
      have hb : ((m : Int) + (n : Int) == 16) = true := by rw [beq_iff_eq]; omega
      clear he
      go_quiet (fail)
      go_wp2_with fail
      have P6 := HP5.out nq
      have B6 := Lib.hid (BB.out nq)
      generalize w5.drewN nq = w6 at *
      refine (fail_any w6 K t u lv 2 P6).mono ?_
      rintro e w7 ⟨rfl, hb7⟩
      have B7 := B6.out.trans (hb7.mono B6.out.size)
      clear hb7
      go_wp2_with fail
      exact ⟨rfl, chgB B7, rfl⟩
    · rw [if_neg he] at hRR
      obtain rfl := hRR
      have hb : ((m : Int) + (n : Int) == 16) = false := by rw [beq_eq_false_iff_ne]; omega
      clear he
      go_quiet (fail)
      go_wp2_with fail
      have P6 := HP5.out nq
      have B6 := Lib.hid (BB.out nq)
      generalize w5.drewN nq = w6 at *
      refine (take_any w6 K t u lv P6 hgu).mono ?_
      rintro e w7 ⟨rfl, hP, hC⟩
      go_wp2_with fail
      go_ret
      exact ⟨(chgB B6.out).trans hC (fun _ _ e => e), rfl, hP⟩
  · have h1' : PS.isName t = false := by simpa using h1
    rw [if_neg h1]
    rw [h1'] at HN
    clear h1 h1'
    go_enter Tryz.func81, Tryz.ntmps81
    go_wp2_with (first
      | (go_at_call 60; refine (next_any _ K t u lv (HP.out _ (Below.refl _ _))).mono ?_; rintro e w2 ⟨rfl, hb2⟩; have B2 := Lib.hid (hb2.alloc hb2.size (.cells #[.int .i64 (t.kind : Int), .int .i64 (t.pos : Int), .string (PS.bs t.text), .int .i64 (t.num : Int)] 86)); clear hb2)
      | (go_at_call 104; refine (HN.out _).mono ?_; clear HN; rintro e w3 ⟨rfl, hb3⟩; have B3 := Lib.hid (B2.out.trans (hb3.mono B2.out.size)); clear hb3)
      | (go_at_call 59; refine (need_any _ K t u lv false (HP.out _ B3.out)).mono ?_; rintro e w4 ⟨rfl, hb4⟩; have B4 := Lib.hid (B3.out.trans (hb4.mono B3.out.size)); clear hb4))
    exact ⟨rfl, chgB B4.out, rfl⟩
end Go.Proofs.YtlfpaemfhanpiaaGreatDoor

namespace Go.Proofs.YtlfpaemfhanpiaaGreatDoor
open Go Go.RowKit Go.Proofs
attribute [local go_sem] Oper.semAt_some field0 field1 field2 field3

theorem infoS : (Tryz.prog.info? 9).map (fun i => (i.zero, i.size, i.bytes)) = some (some (.string ⟨#[]⟩), 1, 16) := by kernel_rfl
/-- The parser with its names, in blocks from lo on. -/
structure Tp (W : World) (lo : Nat) (K : Pc) (ts : List LX.Tok) (d v : List PS.Bs) : Prop where
  pat : PAt W K ts 0
  dur : Dl W lo K.dv d
  vol : Dl W lo K.vv v
  apart : ∀ b, K.dv.ownBlock = some b → K.vv.ownBlock = some b → False
  g : K.g < lo
  tb : K.tb < lo
  mb : K.mb < lo
  big : lo ≤ W.heap.size
  few : d.length + v.length ≤ 16
/-- What a declaration may turn. -/
abbrev Sg (g lo : Nat) : Nat → Prop := fun b => b = g ∨ lo ≤ b
section
variable {W W' : World} {lo : Nat} {K : Pc} {ts r : List LX.Tok} {d v : List PS.Bs}
theorem Dl.lt {x : Value} {l : List PS.Bs} (h : Dl W lo x l) : ∀ b, x.ownBlock = some b → lo ≤ b ∧ b < W.heap.size := World.ownsRow.lt h
theorem Dl.chg {x : Value} {l : List PS.Bs} {S : Nat → Prop} (h : Dl W lo x l) (hC : Chg S W W') (hS : ∀ b, x.ownBlock = some b → ¬ S b) : Dl W' lo x l := h.keep fun b hb => hC.block b (h.lt b hb).2 (hS b hb)
/-- A call that takes tokens. -/
theorem Tp.step (h : Tp W lo K ts d v) (hC : Chg (· = K.g) W W') (hP : PAt W' K r 0) : Tp W' lo K r d v :=
  ⟨hP, h.dur.chg hC (fun b hb e => by have := (h.dur.lt b hb).1; have := h.g; omega), h.vol.chg hC (fun b hb e => by have := (h.vol.lt b hb).1; have := h.g; omega), h.apart, h.g, h.tb, h.mb, Nat.le_trans h.big hC.size, h.few⟩
theorem Tp.below (h : Tp W lo K ts d v) (hb : Below W.heap.size W W') : Tp W' lo K ts d v := h.step (chgB hb) (h.pat.keep hb)
theorem Tp.drew (h : Tp W lo K ts d v) : Tp W.drew lo K ts d v := h.below ((Below.refl _ _).drew)
/-- Behind the append of a name to the durable ones. -/
theorem Tp.more_d {w5 w6 U : World} {s : PS.Bs} {X : Obj} {A : Option Addr} {n c g4 c4 : Nat} (h : Tp w5 lo K ts d v) (hK : K.dv = .slice A n c) (hg : (w5.alloc X).grownBy w6 (Value.slice A n c).ownBlock) (hat : (Value.slice A n c).ownBlock = some g4 ∨ w5.heap.size ≤ g4)
    (hown : w6.ownsRow lo 9 1 (.slice (some ⟨g4, 0, none⟩) (n + 1) c4) (n + 1) (d.map (fun s => Value.string (PS.bs s)) ++ [.string (PS.bs s)])) (hn : d.length = n) (hfew : d.length + v.length < 16) (hU : w6.setCell ⟨K.g, 2, none⟩ (.slice (some ⟨g4, 0, none⟩) (n + 1) c4) = U) :
    Tp U lo { K with dv := .slice (some ⟨g4, 0, none⟩) (n + 1) c4 } ts (d ++ [s]) v ∧ Chg (Sg K.g lo) w5 U := by
  have h2 := h.dur
  rw [hK] at h2
  have hlt := h2.lt
  have hvl := h.vol.lt
  have hgl := h.g
  have htl := h.tb
  have hml := h.mb
  have hbg := h.big
  have hsz := hg.size
  rw [World.size_alloc] at hsz
  have k6 : ∀ x, x < w5.heap.size → some x ≠ (Value.slice A n c).ownBlock → w6.heap[x]? = w5.heap[x]? := fun x hx hn => (hg.block x (by rw [World.size_alloc]; omega) hn).trans (Below.heap_alloc w5 X x hx)
  have far : ∀ x, x < lo → some x ≠ (Value.slice A n c).ownBlock := fun x hx e => by have := (hlt x e.symm).1; omega
  have kU : ∀ x, x ≠ K.g → U.heap[x]? = w6.heap[x]? := fun x hx => by rw [← hU]; exact Below.heap_setCell _ _ _ _ hx
  have zU : U.heap.size = w6.heap.size := by rw [← hU]; simp [World.setCell]
  have hPl := h.pat.lt
  have hC : Chg (Sg K.g lo) w5 U := by
    rw [← hU]
    refine ((((Chg.refl (Sg K.g lo) w5).alloc X).grown hg fun k e _ => .inr (hlt k e).1)).setCell (p := ⟨K.g, 2, none⟩) (fun _ => .inl rfl) _
  obtain ⟨off, c0, e1, e2, e3, e4, e5⟩ := h.pat
  refine ⟨⟨⟨off, c0, ?_, e2, e3, ⟨fun i t ht => (e4.cell i t ht).keep ((kU _ e5.1).trans (k6 _ e4.lt (far _ htl))), by have := e4.lt; rw [zU]; show K.tb < _; omega, ((kU _ e5.2).trans (k6 _ (heap_lt e4.map) (far _ hml))).trans e4.map, e4.big, e4.good⟩, e5⟩, ?_, ?_, fun b hb hb2 => ?_, hgl, htl, hml, by omega, by rw [List.length_append]; simp; omega⟩, hC⟩
  · have hrow := row_set (i := 2) ((k6 K.g hPl (far _ hgl)).trans e1) (.slice (some ⟨g4, 0, none⟩) (n + 1) c4)
    rw [hU] at hrow
    exact hrow
  · have hd : Dl w6 lo (.slice (some ⟨g4, 0, none⟩) (n + 1) c4) (d ++ [s]) := by
      unfold Dl
      rw [List.map_append, List.length_append, hn]
      exact hown
    exact hd.keep fun b hb => kU b (by have := (hd.lt b hb).1; omega)
  · exact h.vol.keep fun b hb => (kU b (by have := (hvl b hb).1; omega)).trans (k6 b (hvl b hb).2 fun e => h.apart b (by rw [hK]; exact e.symm) hb)
  · have hb : some g4 = some b := hb
    injection hb with hb
    subst hb
    rcases hat with hat | hat
    · exact h.apart g4 (by rw [hK]; exact hat) hb2
    · have := (hvl g4 hb2).2
      omega
theorem Tp.more_v {w5 w6 U : World} {s : PS.Bs} {X : Obj} {A : Option Addr} {n c g4 c4 : Nat} (h : Tp w5 lo K ts d v) (hK : K.vv = .slice A n c) (hg : (w5.alloc X).grownBy w6 (Value.slice A n c).ownBlock) (hat : (Value.slice A n c).ownBlock = some g4 ∨ w5.heap.size ≤ g4)
    (hown : w6.ownsRow lo 9 1 (.slice (some ⟨g4, 0, none⟩) (n + 1) c4) (n + 1) (v.map (fun s => Value.string (PS.bs s)) ++ [.string (PS.bs s)])) (hn : v.length = n) (hfew : d.length + v.length < 16) (hU : w6.setCell ⟨K.g, 3, none⟩ (.slice (some ⟨g4, 0, none⟩) (n + 1) c4) = U) :
    Tp U lo { K with vv := .slice (some ⟨g4, 0, none⟩) (n + 1) c4 } ts d (v ++ [s]) ∧ Chg (Sg K.g lo) w5 U := by
  have h2 := h.vol
  rw [hK] at h2
  have hlt := h2.lt
  have hvl := h.dur.lt
  have hgl := h.g
  have htl := h.tb
  have hml := h.mb
  have hbg := h.big
  have hsz := hg.size
  rw [World.size_alloc] at hsz
  have k6 : ∀ x, x < w5.heap.size → some x ≠ (Value.slice A n c).ownBlock → w6.heap[x]? = w5.heap[x]? := fun x hx hn => (hg.block x (by rw [World.size_alloc]; omega) hn).trans (Below.heap_alloc w5 X x hx)
  have far : ∀ x, x < lo → some x ≠ (Value.slice A n c).ownBlock := fun x hx e => by have := (hlt x e.symm).1; omega
  have kU : ∀ x, x ≠ K.g → U.heap[x]? = w6.heap[x]? := fun x hx => by rw [← hU]; exact Below.heap_setCell _ _ _ _ hx
  have zU : U.heap.size = w6.heap.size := by rw [← hU]; simp [World.setCell]
  have hPl := h.pat.lt
  have hC : Chg (Sg K.g lo) w5 U := by
    rw [← hU]
    refine ((((Chg.refl (Sg K.g lo) w5).alloc X).grown hg fun k e _ => .inr (hlt k e).1)).setCell (p := ⟨K.g, 3, none⟩) (fun _ => .inl rfl) _
  obtain ⟨off, c0, e1, e2, e3, e4, e5⟩ := h.pat
  refine ⟨⟨⟨off, c0, ?_, e2, e3, ⟨fun i t ht => (e4.cell i t ht).keep ((kU _ e5.1).trans (k6 _ e4.lt (far _ htl))), by have := e4.lt; rw [zU]; show K.tb < _; omega, ((kU _ e5.2).trans (k6 _ (heap_lt e4.map) (far _ hml))).trans e4.map, e4.big, e4.good⟩, e5⟩, ?_, ?_, fun b hb2 hb => ?_, hgl, htl, hml, by omega, by rw [List.length_append]; simp; omega⟩, hC⟩
  · have hrow := row_set (i := 3) ((k6 K.g hPl (far _ hgl)).trans e1) (.slice (some ⟨g4, 0, none⟩) (n + 1) c4)
    rw [hU] at hrow
    exact hrow
  · exact h.dur.keep fun b hb => (kU b (by have := (hvl b hb).1; omega)).trans (k6 b (hvl b hb).2 fun e => h.apart b hb (by rw [hK]; exact e.symm))
  · have hd : Dl w6 lo (.slice (some ⟨g4, 0, none⟩) (n + 1) c4) (v ++ [s]) := by
      unfold Dl
      rw [List.map_append, List.length_append, hn]
      exact hown
    exact hd.keep fun b hb => kU b (by have := (hd.lt b hb).1; omega)
  · have hb : some g4 = some b := hb
    injection hb with hb
    subst hb
    rcases hat with hat | hat
    · exact h.apart g4 hb2 (by rw [hK]; exact hat)
    · have := (hvl g4 hb2).2
      omega
end
end Go.Proofs.YtlfpaemfhanpiaaGreatDoor

namespace Go.Proofs.YtlfpaemfhanpiaaGreatDoor
open Go Go.RowKit Go.Proofs
attribute [local go_sem] Oper.semAt_some field0 field1 field2 field3

theorem PM.Mp.lt {W : World} {b : Nat} {l : List (ByteArray × DataW Unit)} (h : PM.Mp W b l) : b < W.heap.size := by
  obtain ⟨es, clock, h1, h2⟩ := h
  exact heap_lt h1
set_option maxRecDepth 100000 in
set_option maxHeartbeats 8000000 in
theorem statements_any (V : World) : Calls Tryz.prog 33 #[] V fun e w' => e = .returned (.map (some V.heap.size)) ∧ Below V.heap.size V w' ∧ PM.Mp w' V.heap.size PM.stmL := by
  have M := PM.Mp.made V
  have B : Below V.heap.size V (V.alloc (.map #[] 0)) := (Below.refl _ _).alloc (Nat.le_refl _) _
  have hmm := @run_makeMap Tryz.prog
  go_enter Tryz.func33, Tryz.ntmps33
  go_wp2_with (first
    | (refine PM.wpList_insert rfl _ _ _ rfl rfl M (by simp) _ (by decide) (45 + 1) rfl (by rfl) ?_; clear M; intro wn M hg; have B := B.trans (Chg.below (Chg.of_grown hg) (fun x _ e => by injection e with e; omega) (by have := B.size; omega)); clear hg; go_simp)
    | (refine PM.wpList_insert rfl _ _ _ rfl rfl M (by simp) _ (by decide) (46 + 1) rfl (by rfl) ?_; clear M; intro wn M hg; have B := B.trans (Chg.below (Chg.of_grown hg) (fun x _ e => by injection e with e; omega) (by have := B.size; omega)); clear hg; go_simp)
    | (refine PM.wpList_insert rfl _ _ _ rfl rfl M (by simp) _ (by decide) (47 + 1) rfl (by rfl) ?_; clear M; intro wn M hg; have B := B.trans (Chg.below (Chg.of_grown hg) (fun x _ e => by injection e with e; omega) (by have := B.size; omega)); clear hg; go_simp)
    | (refine PM.wpList_insert rfl _ _ _ rfl rfl M (by simp) _ (by decide) (48 + 1) rfl (by rfl) ?_; clear M; intro wn M hg; have B := B.trans (Chg.below (Chg.of_grown hg) (fun x _ e => by injection e with e; omega) (by have := B.size; omega)); clear hg; go_simp)
    | (refine PM.wpList_insert rfl _ _ _ rfl rfl M (by simp) _ (by decide) (50 + 1) rfl (by rfl) ?_; clear M; intro wn M hg; have B := B.trans (Chg.below (Chg.of_grown hg) (fun x _ e => by injection e with e; omega) (by have := B.size; omega)); clear hg; go_simp)
    | (refine PM.wpList_insert rfl _ _ _ rfl rfl M (by simp) _ (by decide) (51 + 1) rfl (by rfl) ?_; clear M; intro wn M hg; have B := B.trans (Chg.below (Chg.of_grown hg) (fun x _ e => by injection e with e; omega) (by have := B.size; omega)); clear hg; go_simp)
    | (refine PM.wpList_insert rfl _ _ _ rfl rfl M (by simp) _ (by decide) (53 + 1) rfl (by rfl) ?_; clear M; intro wn M hg; have B := B.trans (Chg.below (Chg.of_grown hg) (fun x _ e => by injection e with e; omega) (by have := B.size; omega)); clear hg; go_simp)
    | (refine PM.wpList_insert rfl _ _ _ rfl rfl M (by simp) _ (by decide) (54 + 1) rfl (by rfl) ?_; clear M; intro wn M hg; have B := B.trans (Chg.below (Chg.of_grown hg) (fun x _ e => by injection e with e; omega) (by have := B.size; omega)); clear hg; go_simp)
    | (refine PM.wpList_insert rfl _ _ _ rfl rfl M (by simp) _ (by decide) (55 + 1) rfl (by rfl) ?_; clear M; intro wn M hg; have B := B.trans (Chg.below (Chg.of_grown hg) (fun x _ e => by injection e with e; omega) (by have := B.size; omega)); clear hg; go_simp))
  go_ret
  exact ⟨rfl, B, M⟩
end Go.Proofs.YtlfpaemfhanpiaaGreatDoor
