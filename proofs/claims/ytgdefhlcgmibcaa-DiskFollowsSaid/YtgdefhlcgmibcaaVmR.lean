/-
  The machine's run of the busy program. No condition but the bounds.
-/
import Derived.Test.YtgdefhlcgmibcaaVmK
import Derived.Test.YtgdefhlcgmibcaaRgT
import Derived.Deep.Cut
namespace Go.Proofs.Ytgdefhlcgmibcaa
open Go Go.RowKit Go.Proofs
attribute [local go_sem] Oper.semAt_some

theorem codeC_at : ∀ (l : List (Int × Int)) (k : Nat) (a b : Int), l[k]? = some (a, b) → (VM.codeC l)[k * 2]? = some (.int .i64 a) ∧ (VM.codeC l)[k * 2 + 1]? = some (.int .i64 b)
  | [], k, a, b, h => by simp at h
  | x :: l, 0, a, b, h => by
    simp at h
    subst h
    exact ⟨rfl, rfl⟩
  | x :: l, k + 1, a, b, h => by
    have ih := codeC_at l k a b (by simpa using h)
    have e : VM.codeC (x :: l) = .int .i64 x.1 :: .int .i64 x.2 :: VM.codeC l := rfl
    rw [e, show (k + 1) * 2 = k * 2 + 1 + 1 by omega]
    exact ⟨by simpa using ih.1, by simpa using ih.2⟩
theorem vm_make_bools (n : Nat) (hn : n ≤ 100000) : ∀ W : World, (Instr.makeSlice 31 (.int .i64 (n : Int)) (.int .i64 (n : Int))).run Try.prog W = .ok (.slice (some ⟨W.heap.size, 0, none⟩) n n) (W.alloc (.cells (Array.replicate n (.bool false)) 4)) := by
  obtain ⟨i, hi, hz, h1, h2⟩ := dk_info dk_bool
  intro W
  have h := run_makeN 31 4 i _ Try.underlying31 hi hz .i64 .i64 n n (Nat.le_refl _) (by rw [h2]; omega) (by omega) W
  rw [h1, Nat.mul_one, madeN_one _ _ rfl] at h
  exact h
/-- A block that holds truths or instructions turns: the machine stands. -/
theorem MPt.other {F : MFix} {B g mb : Nat} {w w' : World} {s : VM.St} {T C : Array Value} {t : TypeId} {V K A : Option Addr} {vc kc ac : Nat} (h : MPt F B w g s T V K A vc kc ac) (hm : w.heap[mb]? = some (.cells C t (0, 0))) (h1 : 3 ≠ t) (h2 : 63 ≠ t) (h3 : 78 ≠ t) (o : ∀ b, b ≠ mb → w'.heap[b]? = w.heap[b]?) : MPt F B w' g s T V K A vc kc ac :=
  ⟨(o g (fun e => by subst e; rw [h.1] at hm; injection hm with hm; injection hm with _ hm; exact h3 hm)).trans h.1, h.2.1, own_other' h.2.2.1 o (ne_ty h.2.2.1 hm h1), own_other' h.2.2.2.1 o (ne_ty h.2.2.2.1 hm h1), own_other' h.2.2.2.2.1 o (ne_ty h.2.2.2.2.1 hm h2), h.2.2.2.2.2⟩
def RgX.Sp.sl : RgX.Sp := ⟨fun _ x => ∃ A m c, x = .slice A m c, fun h _ => h⟩
def RgX.Sp.out5 (x0 x1 x2 x3 : Value) : RgX.Sp := ⟨fun _ x => ∃ A m c, x = .agg #[x0, x1, x2, x3, .slice A m c], fun h _ => h⟩
theorem setCell_at {w : World} {g j : Nat} {T : Array Value} {t : TypeId} {v : Value} (hg : w.heap[g]? = some (.cells T t (0, 0))) : (w.setCell ⟨g, j, none⟩ v).heap[g]? = some (.cells (T.setIfInBounds j v) t (0, 0)) ∧ (∀ b, b ≠ g → (w.setCell ⟨g, j, none⟩ v).heap[b]? = w.heap[b]?) ∧ (w.setCell ⟨g, j, none⟩ v).heap.size = w.heap.size ∧ Below g w (w.setCell ⟨g, j, none⟩ v) :=
  ⟨by simp only [World.setCell, Array.getElem?_modify]; simp [hg], fun b hb => Below.heap_setCell _ _ _ _ hb, by simp [World.setCell], (Below.refl _ _).setCell (p := ⟨g, j, none⟩) (Nat.le_refl _) v⟩
theorem vm_sz_out : (Try.prog.info? 58).map (·.size) = some 5 := by kernel_rfl
/-- What a run leaves. -/
def RunIs (B n : Nat) (w' : World) (v : Value) : Prop := ∃ (V A D : Option Addr) (vc ac m dc : Nat) (st : Int) (acts : List VM.Ac), v = .agg #[.slice V 1 vc, .slice A acts.length ac, .int .i64 st, .bool false, .slice D m dc] ∧ w'.ownsRow B 3 1 (.slice V 1 vc) 1 (DK.intsC [(n : Int)]) ∧ w'.ownsRow B 63 5 (.slice A acts.length ac) acts.length (VM.acsC acts) ∧ VM.wrOf acts = VM.wrsOf n ∧ acts.length ≤ 500
set_option maxHeartbeats 4000000 in
set_option maxRecDepth 100000 in
theorem run_c {F : MFix} {B g n gc : Nat} {d lim : Int} {s : VM.St} {w : World} (h : MAt F B w g s) (hB : B ≤ w.heap.size) (hF : F.effs = VM.effL) (hd : F.dur = 1) (hlim : F.names[1]? = some lim) (hn : n ≤ 30) (hI : VM.Inv n d 0 s)
    (hgc : w.heap[gc]? = some (.cells (VM.codeC (VM.busy n d)).toArray 71 (0, 0))) :
    Calls Try.prog 42 #[.pointer (some ⟨g, 0, none⟩), .slice (some ⟨gc, 0, none⟩) 14 14] w fun e w' => (∃ v, e = .returned v ∧ RunIs B n w' v) ∧ Below B w w' := by
  have hmk : ∀ W : World, (Instr.makeSlice 31 (.int .i64 14) (.int .i64 14)).run Try.prog W = .ok (.slice (some ⟨W.heap.size, 0, none⟩) 14 14) (W.alloc (.cells (Array.replicate 14 (.bool false)) 4)) := vm_make_bools 14 (by omega)
  have HSTEP := Lib.hid (fun (j : Nat) (s : VM.St) (h1 : VM.Inv n d j s) (h2 : s.stopped = false) => busy_step F B g n d lim j s hF hd hlim hn h1 h2)
  obtain ⟨U, hU⟩ : ∃ U, (w.alloc (.cells #[.slice none 0 0, .slice none 0 0, .int .i64 0, .bool false, .slice none 0 0] 58)).alloc (.cells (Array.replicate 14 (.bool false)) 4) = U := ⟨_, rfl⟩
  have hbU : Below w.heap.size w U := hU ▸ (((Below.refl _ _).alloc (Nat.le_refl _) _).alloc (by simp) _)
  have hzU : U.heap.size = w.heap.size + 2 := by rw [← hU]; simp
  have kr : U.heap[w.heap.size]? = some (.cells #[.slice none 0 0, .slice none 0 0, .int .i64 0, .bool false, .slice none 0 0] 58 (0, 0)) := by rw [← hU, Below.heap_alloc _ _ _ (by simp)]; exact dk_new_at rfl
  have km : U.heap[w.heap.size + 1]? = some (.cells ((List.replicate 14 false).map Value.bool).toArray 4 (0, 0)) := by rw [← hU]; exact dk_new_at (by simp)
  have H0 := Lib.hid (And.intro (h.below hbU) (And.intro (hbU.mono hB) (And.intro kr (And.intro km ((hbU.block gc (blk_lt hgc)).trans hgc)))))
  have HI := Lib.hid hI
  have hgw : g < w.heap.size := by obtain ⟨T, _, _, _, _, _, _, h1, _⟩ := h; exact blk_lt h1
  clear h hF hd hlim hI hgc hbU kr km
  go_enter Try.func42, Try.ntmps42
  go_wp2_with fail
  clear hU hmk
  go_loopw [6] (fun i V => ∃ (j : Nat) (s : VM.St) (ms : List Bool), i = .int .i64 (j : Int) ∧ ms.length = 14 ∧ Hid (VM.Inv n d j s) ∧ Hid (MAt F B V g s) ∧ Hid (Below B w V) ∧ Hid (V.heap[w.heap.size]? = some (.cells #[.slice none 0 0, .slice none 0 0, .int .i64 0, .bool false, .slice none 0 0] 58 (0, 0))) ∧ Hid (V.heap[w.heap.size + 1]? = some (.cells (ms.map Value.bool).toArray 4 (0, 0))) ∧ Hid (V.heap[gc]? = some (.cells (VM.codeC (VM.busy n d)).toArray 71 (0, 0)))) (fun i _ => 500 - (intOf i).toNat)
  case atStart => exact ⟨0, s, List.replicate 14 false, rfl, rfl, HI.out, H0.out.1, H0.out.2.1, H0.out.2.2.1, H0.out.2.2.2.1, H0.out.2.2.2.2⟩
  case round =>
    obtain ⟨j, s1, ms, rfl, hms, HJ, HM, HW, HR, HK, HC⟩ := hrel
    obtain ⟨T, V, K, A, vc, kc, ac, hP⟩ := HM.out
    have hP : MPt F B wr g s1 T V K A vc kc ac := hP
    have cst := mcell hP.1 hP.2.1.stopped
    have HP := Lib.hid hP
    clear hP HI H0
    obtain ⟨sb, hsb⟩ : ∃ sb, s1.stopped = sb := ⟨_, rfl⟩
    cases sb with
    | false =>
      obtain ⟨hj5, pc, op, arg, L, s2, hnx, hpc, hcode, hop, hef, eg, heff, hinv⟩ := HSTEP.out j s1 HJ.out hsb
      have hj5i : (j : Int) < 500 := by omega
      rw [hsb] at cst
      have cnx := mcell HP.out.1 HP.out.2.1.next
      rw [hnx] at cnx
      obtain ⟨k0, k1⟩ := codeC_at _ pc _ _ hcode
      have ck0 : wr.cell? ⟨gc, pc * 2, none⟩ = some (.int .i64 (op : Int)) := (cell_of_row _ _ _ _ _ (0, 0) HC.out).trans (by simpa using k0)
      have ck1 : wr.cell? ⟨gc, pc * 2 + 1, none⟩ = some (.int .i64 arg) := (cell_of_row _ _ _ _ _ (0, 0) HC.out).trans (by simpa using k1)
      obtain ⟨Z, hZ⟩ : ∃ Z, wr.alloc (.cells #[.int .i64 (op : Int), .int .i64 arg] 71) = Z := ⟨_, rfl⟩
      have hbZ : Below wr.heap.size wr Z := hZ ▸ dk_box wr _
      have hsZ : Z.heap.size = wr.heap.size + 1 := by rw [← hZ]; simp
      have hkZ : Z.heap[wr.heap.size]? = some (.cells #[.int .i64 (op : Int), .int .i64 arg] 71 (0, 0)) := by rw [← hZ]; exact dk_new_at rfl
      have HZ := Lib.hid (And.intro hbZ (And.intro hkZ ((hbZ.block _ (blk_lt HK.out)).trans HK.out)))
      have hPZ : MPt F B Z g s1 T V K A vc kc ac := ⟨(hbZ.block g (blk_lt HP.out.1)).trans HP.out.1, HP.out.2.1, dk_own_keep HP.out.2.2.1 hbZ, dk_own_keep HP.out.2.2.2.1 hbZ, dk_own_keep HP.out.2.2.2.2.1 hbZ, HP.out.2.2.2.2.2⟩
      have cnxZ := mcell hPZ.1 hPZ.2.1.next
      rw [hnx] at cnxZ
      have HPZ := Lib.hid hPZ
      have hgm : g ≠ w.heap.size + 1 := by omega
      obtain ⟨ms2, hms2⟩ : ∃ ms2, ms.set pc true = ms2 := ⟨_, rfl⟩
      have HT1 := Lib.hid (And.intro (show pc + (Value.bool true).cells.size ≤ (ms.map Value.bool).toArray.size by show pc + 1 ≤ _; simp [hms]; omega) (And.intro (show (Value.bool true).cells.all (·.oneCell') = true by simp [Value.cells, Value.oneCell']) (And.intro (show (Try.prog.info? 4).map (·.size) = some (Value.bool true).cells.size from vm_sz_bool) (show (ms2.map Value.bool).toArray = ((ms.map Value.bool).toArray.toList.take pc ++ (Value.bool true).cells.toList ++ (ms.map Value.bool).toArray.toList.drop (pc + (Value.bool true).cells.size)).toArray by rw [← seg_one (T := (ms.map Value.bool).toArray) (j := pc) (v := .bool true) rfl (by simp [hms]; omega), ← hms2]; simp))))
      have HT2 := Lib.hid (And.intro (mst (T := T) HP.out.2.1.size 37 (by omega) (.int .i64 ((pc : Int) + 1)) rfl rfl) (show (Try.prog.info? 3).map (·.size) = some (Value.int .i64 ((pc : Int) + 1)).cells.size from dk_sz_int))
      have HPO := Lib.hid (fun (u : World) (ho : ∀ b, b ≠ w.heap.size + 1 → u.heap[b]? = Z.heap[b]?) => And.intro (HPZ.out.other HZ.out.2.2 (by decide) (by decide) (by decide) ho) (show u.cell? ⟨g, 37, none⟩ = some (.int .i64 (pc : Int)) from by have hq := HPZ.out.other HZ.out.2.2 (by decide) (by decide) (by decide) ho; have := mcell hq.1 hq.2.1.next; rw [hnx] at this; exact this))
      have hms2l : ms2.length = 14 := by rw [← hms2]; simpa using hms
      have hpci : (pc : Int) < 14 := by omega
      have hwp : wrap64 ((pc : Int) + 1) = (pc : Int) + 1 := by simp only [wrap64]; omega
      have HE := Lib.hid (And.intro hef (And.intro heff hinv))
      clear hcode k0 k1 hbZ hkZ hPZ hef heff hinv hnx hsb HSTEP hms2
      go_upto_region 7 with (refine RgX.wpList_store_seg rfl 4 _ _ rfl (w.heap.size + 1) pc (.bool true) rfl rfl 4 _ HZ.out.2.2 HT1.out.2.2.1 HT1.out.1 HT1.out.2.1 _ HT1.out.2.2.2 ?_; intro u1 kk1 o1 z1 b1; obtain ⟨pp1, cc1⟩ := HPO.out u1 o1; have HU1 := Lib.hid (And.intro pp1 (And.intro kk1 (And.intro o1 (And.intro z1 b1)))); clear pp1 kk1 o1 z1 b1)
      have hfr : u1.frozen? ⟨g, 37, none⟩ = false := by simp [World.frozen?, HU1.out.1.1]
      have HQ := Lib.hid (And.intro hj5 (And.intro hms2l (And.intro hsZ (And.intro hop (And.intro hzU hms)))))
      have hbox1 : u1.heap[wr.heap.size]? = _ := (HU1.out.2.2.1 _ (fun e => by have := blk_lt HK.out; omega)).trans HZ.out.2.1
      have HBOX := Lib.hid (And.intro hbox1 (show wr.heap.size ≠ g from fun e => by have := blk_lt HP.out.1; omega))
      clear hbox1
      clear HT1 HPO HT2 hZ hsZ ck0 ck1 cnx cnxZ hj5 hj5i hms hms2l hpci hop hgm cst HM HP hpc hzU
      go_upto_region 8 with fail
      obtain ⟨k2, o2, z2, b2⟩ := setCell_at (v := .int .i64 ((pc : Int) + 1)) (j := 37) HU1.out.1.1
      have hP2 := HU1.out.1.next ((pc : Int) + 1) k2 o2
      obtain ⟨u2, hu2⟩ : ∃ u2, u1.setCell ⟨g, 37, none⟩ (.int .i64 ((pc : Int) + 1)) = u2 := ⟨_, rfl⟩
      rw [hu2] at hP2 k2 o2 z2 b2 ⊢
      have HV2 := Lib.hid (And.intro hP2 (And.intro ((o2 _ HBOX.out.2).trans HBOX.out.1) (hP2.2.1.eff op (VM.fv L) HE.out.1)))
      have HO2 := Lib.hid (And.intro o2 (And.intro z2 b2))
      clear hP2 k2 o2 z2 b2 hu2 hfr HBOX
      refine RgX.tail 10 (fun i => ( 42 + i)) (fun ix_ => match ix_ with | 0 => .v (.pointer (some ⟨g, 0, none⟩)) | 1 => .v (.pointer (some ⟨wr.heap.size, 0, none⟩)) | 2 => .v (.int .i64 (op : Int)) | 3 => .v (.pointer (some ⟨g, 0, none⟩)) | 4 => .v (.pointer (some ⟨g, 0, none⟩)) | 5 => .v (.pointer (some ⟨g, op, none⟩)) | 6 => .v ((.func (.func L) #[] #[])) | 7 => .v (.pointer (some ⟨g, 0, none⟩)) | 8 => .v (.pointer (some ⟨wr.heap.size, 1, none⟩)) | 9 => .v (.int .i64 arg) | _ => .any) _ (by kernel_rfl) rfl rfl (by kernel_rfl) (by kernel_rfl) (fun i hi => by show ( 42 + i) < 70; (repeat' split) <;> omega) (fun i j hi hj => by show ( 42 + i) = ( 42 + j) → i = j; (repeat' split) <;> omega) ?step ?fin
      case step =>
        intro L_ A_ w3 ix op_ hi hI ho hdep
        have hcase : ix = 0 ∨ ix = 1 ∨ ix = 2 ∨ ix = 3 ∨ ix = 4 ∨ ix = 5 ∨ ix = 6 ∨ ix = 7 ∨ ix = 8 ∨ ix = 9 := by omega
        have hh := hI.held
        clear hi
        rcases hcase with rfl | rfl | rfl | rfl | rfl | rfl | rfl | rfl | rfl | rfl
        · simp only [List.getElem?_toArray, List.getElem?_cons_zero, Option.some.injEq] at ho
          subst ho
          refine ⟨rfl, ?_⟩
          have e0 : A_.tmps[0]?.getD undef = .pointer (some ⟨g, 0, none⟩) := by rw [hI.low 0 (by decide)]; rfl
          clear hI hdep
          exact .run rfl (.pointer (some ⟨g, 0, none⟩)) w3 (by simp [execOp, go_sem, Act.eval, e0]) (Below.refl _ _) rfl
        · simp only [List.getElem?_toArray, List.getElem?_cons_succ, List.getElem?_cons_zero, Option.some.injEq] at ho
          subst ho
          refine ⟨rfl, ?_⟩
          have e7 : A_.tmps[7]?.getD undef = .pointer (some ⟨wr.heap.size, 0, none⟩) := by rw [hI.low 7 (by decide)]; rfl
          clear hI hdep
          exact .run rfl (.pointer (some ⟨wr.heap.size, 0, none⟩)) w3 (by simp [execOp, go_sem, Act.eval, e7]) (Below.refl _ _) rfl
        · simp only [List.getElem?_toArray, List.getElem?_cons_succ, List.getElem?_cons_zero, Option.some.injEq] at ho
          subst ho
          refine ⟨rfl, ?_⟩
          have e43 : A_.tmps[43]?.getD undef = .pointer (some ⟨wr.heap.size, 0, none⟩) := getD_of (hI.val_ (i := 1) rfl rfl (by decide) (hdep ⟨1, .data⟩ (by simp) rfl))
          clear hI hdep
          obtain ⟨d0, d1⟩ := dk_two ((hh.block _ (blk_lt HV2.out.2.1)).trans HV2.out.2.1)
          exact .run rfl (.int .i64 (op : Int)) w3 (by simp [execOp, go_sem, Act.eval, *]) (Below.refl _ _) rfl
        · simp only [List.getElem?_toArray, List.getElem?_cons_succ, List.getElem?_cons_zero, Option.some.injEq] at ho
          subst ho
          refine ⟨rfl, ?_⟩
          have e42 : A_.tmps[42]?.getD undef = .pointer (some ⟨g, 0, none⟩) := getD_of (hI.val_ (i := 0) rfl rfl (by decide) (hdep ⟨0, .data⟩ (by simp) rfl))
          clear hI hdep
          exact .run rfl (.pointer (some ⟨g, 0, none⟩)) w3 (by simp [execOp, go_sem, Act.eval, e42]) (Below.refl _ _) rfl
        · simp only [List.getElem?_toArray, List.getElem?_cons_succ, List.getElem?_cons_zero, Option.some.injEq] at ho
          subst ho
          refine ⟨rfl, ?_⟩
          have e45 : A_.tmps[45]?.getD undef = .pointer (some ⟨g, 0, none⟩) := getD_of (hI.val_ (i := 3) rfl rfl (by decide) (hdep ⟨3, .data⟩ (by simp) rfl))
          clear hI hdep
          exact .run rfl (.pointer (some ⟨g, 0, none⟩)) w3 (by simp [execOp, go_sem, Act.eval, e45]) (Below.refl _ _) rfl
        · simp only [List.getElem?_toArray, List.getElem?_cons_succ, List.getElem?_cons_zero, Option.some.injEq] at ho
          subst ho
          refine ⟨rfl, ?_⟩
          have e44 : A_.tmps[44]?.getD undef = .int .i64 (op : Int) := getD_of (hI.val_ (i := 2) rfl rfl (by decide) (hdep ⟨2, .data⟩ (by simp) rfl))
          have e46 : A_.tmps[46]?.getD undef = .pointer (some ⟨g, 0, none⟩) := getD_of (hI.val_ (i := 4) rfl rfl (by decide) (hdep ⟨4, .data⟩ (by simp) rfl))
          clear hI hdep
          have hop := HQ.out.2.2.2.1
          have h6 : (op : Int) < 24 := by omega
          exact .run rfl (.pointer (some ⟨g, op, none⟩)) w3 (by simp [execOp, go_sem, Act.eval, e46, e44, h6]) (Below.refl _ _) rfl
        · simp only [List.getElem?_toArray, List.getElem?_cons_succ, List.getElem?_cons_zero, Option.some.injEq] at ho
          subst ho
          refine ⟨rfl, ?_⟩
          have e47 : A_.tmps[47]?.getD undef = .pointer (some ⟨g, op, none⟩) := getD_of (hI.val_ (i := 5) rfl rfl (by decide) (hdep ⟨5, .data⟩ (by simp) rfl))
          clear hI hdep
          have d2 := mcell ((hh.block _ (blk_lt HV2.out.1.1)).trans HV2.out.1.1) HV2.out.2.2
          have d3 : w3.cell? ⟨g, op, none⟩ = some (.func (.func L) #[] #[]) := d2
          exact .run rfl (.func (.func L) #[] #[]) w3 (by simp [execOp, go_sem, Act.eval, e47, d3]) (Below.refl _ _) rfl
        · simp only [List.getElem?_toArray, List.getElem?_cons_succ, List.getElem?_cons_zero, Option.some.injEq] at ho
          subst ho
          refine ⟨rfl, ?_⟩
          have e0 : A_.tmps[0]?.getD undef = .pointer (some ⟨g, 0, none⟩) := by rw [hI.low 0 (by decide)]; rfl
          clear hI hdep
          exact .run rfl (.pointer (some ⟨g, 0, none⟩)) w3 (by simp [execOp, go_sem, Act.eval, e0]) (Below.refl _ _) rfl
        · simp only [List.getElem?_toArray, List.getElem?_cons_succ, List.getElem?_cons_zero, Option.some.injEq] at ho
          subst ho
          refine ⟨rfl, ?_⟩
          have e7 : A_.tmps[7]?.getD undef = .pointer (some ⟨wr.heap.size, 0, none⟩) := by rw [hI.low 7 (by decide)]; rfl
          clear hI hdep
          exact .run rfl (.pointer (some ⟨wr.heap.size, 1, none⟩)) w3 (by simp [execOp, go_sem, Act.eval, e7]) (Below.refl _ _) rfl
        · simp only [List.getElem?_toArray, List.getElem?_cons_succ, List.getElem?_cons_zero, Option.some.injEq] at ho
          subst ho
          refine ⟨rfl, ?_⟩
          have e50 : A_.tmps[50]?.getD undef = .pointer (some ⟨wr.heap.size, 1, none⟩) := getD_of (hI.val_ (i := 8) rfl rfl (by decide) (hdep ⟨8, .data⟩ (by simp) rfl))
          clear hI hdep
          obtain ⟨d0, d1⟩ := dk_two ((hh.block _ (blk_lt HV2.out.2.1)).trans HV2.out.2.1)
          exact .run rfl (.int .i64 arg) w3 (by simp [execOp, go_sem, Act.eval, *]) (Below.refl _ _) rfl
      case fin =>
      intro A_ w3 hs hd hlow hS hok
      obtain rfl : A_ = ⟨#[.pointer (some ⟨g, 0, none⟩), .slice (some ⟨gc, 0, none⟩) 14 14, undef, undef, .pointer (some ⟨w.heap.size, 0, none⟩), .slice (some ⟨w.heap.size + 1, 0, none⟩) 14 14, .int .i64 (j : Int), .pointer (some ⟨wr.heap.size, 0, none⟩), .slice (some ⟨gc, 0, none⟩) 14 14, .int .i64 14, .slice (some ⟨w.heap.size + 1, 0, none⟩) 14 14, .pointer (some ⟨g, 0, none⟩), .pointer (some ⟨g, 0, none⟩), .pointer (some ⟨g, 38, none⟩), .bool false, .bool true, .bool true, .int .i64 (j : Int), .bool true, .bool true, u20, u21, .slice (some ⟨gc, 0, none⟩) 14 14, .pointer (some ⟨g, 0, none⟩), .pointer (some ⟨g, 0, none⟩), .pointer (some ⟨g, 37, none⟩), .int .i64 (pc : Int), .pointer (some { block := gc, off := pc * 2 }), .agg #[.int .i64 (op : Int), .int .i64 arg], .slice (some ⟨w.heap.size + 1, 0, none⟩) 14 14, .pointer (some ⟨g, 0, none⟩), .pointer (some ⟨g, 0, none⟩), .pointer (some ⟨g, 37, none⟩), .int .i64 (pc : Int), .pointer (some { block := w.heap.size + 1, off := pc }), .pointer (some ⟨g, 0, none⟩), .pointer (some ⟨g, 0, none⟩), .pointer (some ⟨g, 37, none⟩), .int .i64 (pc : Int), .int .i64 (wrap64 ((pc : Int) + 1)), .pointer (some ⟨g, 0, none⟩), .pointer (some ⟨g, 37, none⟩), .pointer (some ⟨g, 0, none⟩), .pointer (some ⟨wr.heap.size, 0, none⟩), .int .i64 (op : Int), .pointer (some ⟨g, 0, none⟩), .pointer (some ⟨g, 0, none⟩), .pointer (some ⟨g, op, none⟩), (.func (.func L) #[] #[]), .pointer (some ⟨g, 0, none⟩), .pointer (some ⟨wr.heap.size, 1, none⟩), .int .i64 arg, u52, undef, undef, undef, undef, undef, undef, undef, undef, undef, undef, undef, undef, undef, undef, undef, undef, undef], []⟩ := act_ext hd hs (fun j hj => match j, hj with | 0, _ => (hlow 0 (by decide)).trans rfl | 1, _ => (hlow 1 (by decide)).trans rfl | 2, _ => (hlow 2 (by decide)).trans rfl | 3, _ => (hlow 3 (by decide)).trans rfl | 4, _ => (hlow 4 (by decide)).trans rfl | 5, _ => (hlow 5 (by decide)).trans rfl | 6, _ => (hlow 6 (by decide)).trans rfl | 7, _ => (hlow 7 (by decide)).trans rfl | 8, _ => (hlow 8 (by decide)).trans rfl | 9, _ => (hlow 9 (by decide)).trans rfl | 10, _ => (hlow 10 (by decide)).trans rfl | 11, _ => (hlow 11 (by decide)).trans rfl | 12, _ => (hlow 12 (by decide)).trans rfl | 13, _ => (hlow 13 (by decide)).trans rfl | 14, _ => (hlow 14 (by decide)).trans rfl | 15, _ => (hlow 15 (by decide)).trans rfl | 16, _ => (hlow 16 (by decide)).trans rfl | 17, _ => (hlow 17 (by decide)).trans rfl | 18, _ => (hlow 18 (by decide)).trans rfl | 19, _ => (hlow 19 (by decide)).trans rfl | 20, _ => (hlow 20 (by decide)).trans rfl | 21, _ => (hlow 21 (by decide)).trans rfl | 22, _ => (hlow 22 (by decide)).trans rfl | 23, _ => (hlow 23 (by decide)).trans rfl | 24, _ => (hlow 24 (by decide)).trans rfl | 25, _ => (hlow 25 (by decide)).trans rfl | 26, _ => (hlow 26 (by decide)).trans rfl | 27, _ => (hlow 27 (by decide)).trans rfl | 28, _ => (hlow 28 (by decide)).trans rfl | 29, _ => (hlow 29 (by decide)).trans rfl | 30, _ => (hlow 30 (by decide)).trans rfl | 31, _ => (hlow 31 (by decide)).trans rfl | 32, _ => (hlow 32 (by decide)).trans rfl | 33, _ => (hlow 33 (by decide)).trans rfl | 34, _ => (hlow 34 (by decide)).trans rfl | 35, _ => (hlow 35 (by decide)).trans rfl | 36, _ => (hlow 36 (by decide)).trans rfl | 37, _ => (hlow 37 (by decide)).trans rfl | 38, _ => (hlow 38 (by decide)).trans rfl | 39, _ => (hlow 39 (by decide)).trans rfl | 40, _ => (hlow 40 (by decide)).trans rfl | 41, _ => (hlow 41 (by decide)).trans rfl | 42, _ => RgX.val_at (hok 0 42 _ (by decide) rfl rfl) | 43, _ => RgX.val_at (hok 1 43 _ (by decide) rfl rfl) | 44, _ => RgX.val_at (hok 2 44 _ (by decide) rfl rfl) | 45, _ => RgX.val_at (hok 3 45 _ (by decide) rfl rfl) | 46, _ => RgX.val_at (hok 4 46 _ (by decide) rfl rfl) | 47, _ => RgX.val_at (hok 5 47 _ (by decide) rfl rfl) | 48, _ => RgX.val_at (hok 6 48 _ (by decide) rfl rfl) | 49, _ => RgX.val_at (hok 7 49 _ (by decide) rfl rfl) | 50, _ => RgX.val_at (hok 8 50 _ (by decide) rfl rfl) | 51, _ => RgX.val_at (hok 9 51 _ (by decide) rfl rfl) | 52, _ => (hlow 52 (by decide)).trans rfl | 53, _ => (hlow 53 (by decide)).trans rfl | 54, _ => (hlow 54 (by decide)).trans rfl | 55, _ => (hlow 55 (by decide)).trans rfl | 56, _ => (hlow 56 (by decide)).trans rfl | 57, _ => (hlow 57 (by decide)).trans rfl | 58, _ => (hlow 58 (by decide)).trans rfl | 59, _ => (hlow 59 (by decide)).trans rfl | 60, _ => (hlow 60 (by decide)).trans rfl | 61, _ => (hlow 61 (by decide)).trans rfl | 62, _ => (hlow 62 (by decide)).trans rfl | 63, _ => (hlow 63 (by decide)).trans rfl | 64, _ => (hlow 64 (by decide)).trans rfl | 65, _ => (hlow 65 (by decide)).trans rfl | 66, _ => (hlow 66 (by decide)).trans rfl | 67, _ => (hlow 67 (by decide)).trans rfl | 68, _ => (hlow 68 (by decide)).trans rfl | 69, _ => (hlow 69 (by decide)).trans rfl | n + 70, h => absurd h (by show ¬ n + 70 < 70; omega))
      clear hs hd hlow hok 
      have hgB : B ≤ g := HV2.out.1.2.2.2.2.2.1
      have hBr : B ≤ wr.heap.size := by have := HW.out.size; omega
      have hB3 : B ≤ w3.heap.size := by have := hS.size; have := blk_lt HV2.out.1.1; omega
      have hZ2 : wr.heap.size ≤ u2.heap.size := by rw [HO2.out.2.1, HU1.out.2.2.2.1, HQ.out.2.2.1]; omega
      have HEF := Lib.hid (HE.out.2.1 w3 (HV2.out.1.at_.below hS) hB3)
      have hst : ∀ (b : Nat) (C : Array Value) (t : TypeId), wr.heap[b]? = some (.cells C t (0, 0)) → b ≠ w.heap.size + 1 → 78 ≠ t → w3.heap[b]? = some (.cells C t (0, 0)) := fun b C t hb h1 h2 => by
        have e1 := (HZ.out.1.block b (blk_lt hb)).trans hb
        have e2 := (HU1.out.2.2.1 b h1).trans e1
        have e3 := (HO2.out.1 b (fun e => by subst e; rw [HU1.out.1.1] at e2; injection e2 with e2; injection e2 with _ e2; exact h2 e2)).trans e2
        exact (hS.block b (blk_lt e3)).trans e3
      have hmb3 : w3.heap[w.heap.size + 1]? = some (.cells (ms2.map Value.bool).toArray 4 (0, 0)) := by
        have e2 := HU1.out.2.1
        have e3 := (HO2.out.1 _ (fun e => by rw [e, HU1.out.1.1] at e2; injection e2 with e2; injection e2 with _ e2; revert e2; decide)).trans e2
        exact (hS.block _ (blk_lt e3)).trans e3
      have hbl : Below B w w3 := (((HW.out.trans (HZ.out.1.mono hBr)).trans (HU1.out.2.2.2.2.mono (by omega))).trans (HO2.out.2.2.mono hgB)).trans (hS.mono (by omega))
      have hgcm : gc ≠ w.heap.size + 1 := fun e => by have h1 := HC.out; rw [e, HK.out] at h1; injection h1 with h1; injection h1 with _ h1; revert h1; decide
      have HF := Lib.hid (And.intro hbl (And.intro (hst _ _ _ HR.out (by omega) (by decide)) (And.intro hmb3 (hst _ _ _ HC.out hgcm (by decide)))))
      have eg' : ∀ args w, (callFunc L args).run Try.prog w = .ok (.enter L args) w := eg
      clear eg hgB hBr hB3 hZ2 hst hmb3 hbl hgcm hS
      have hj5 := HQ.out.1
      have hwj : wrap64 ((j : Int) + 1) = (j : Int) + 1 := by simp only [wrap64]; omega
      go_wp2_with (refine HEF.out.mono ?_; rintro e w4 ⟨⟨v, rfl⟩, m4, k4⟩)
      go_roundw
      case rel => exact ⟨j + 1, s2, ms2, by go_num, HQ.out.2.1, HE.out.2.2, m4, HF.out.1.trans k4.below, (k4.keep _ _ _ HF.out.2.1 (by decide) (by decide) (by decide)).trans HF.out.2.1, (k4.keep _ _ _ HF.out.2.2.1 (by decide) (by decide) (by decide)).trans HF.out.2.2.1, (k4.keep _ _ _ HF.out.2.2.2 (by decide) (by decide) (by decide)).trans HF.out.2.2.2⟩
      case measure => simp [intOf]; omega
    | true =>
      rw [hsb] at cst
      have HB := Lib.hid hsb
      clear HSTEP hsb
      go_upto_region 9 with fail
      refine RgX.tail 17 (fun i => ( 53 + i)) (fun ix_ => match ix_ with | 0 => .v (.pointer (some ⟨g, 0, none⟩)) | 1 => .v (.pointer (some ⟨g, 0, none⟩)) | 2 => .v (.pointer (some ⟨g, 35, none⟩)) | 3 => .v (.slice V s1.vars.length vc) | 4 => .v (.pointer (some ⟨g, 0, none⟩)) | 5 => .v (.pointer (some ⟨g, 0, none⟩)) | 6 => .v (.pointer (some ⟨g, 41, none⟩)) | 7 => .v (.slice A s1.acts.length ac) | 8 => .v (.int .i64 (j : Int)) | 9 => .v (.pointer (some ⟨g, 0, none⟩)) | 10 => .v (.pointer (some ⟨g, 0, none⟩)) | 11 => .v (.pointer (some ⟨g, 38, none⟩)) | 12 => .v (.bool true) | 13 => .v (.bool false) | 14 => .v (.slice (some ⟨w.heap.size + 1, 0, none⟩) 14 14) | 15 => .sl | 16 => .out5 (.slice V s1.vars.length vc) (.slice A s1.acts.length ac) (.int .i64 (j : Int)) (.bool false) | _ => .any) _ (by kernel_rfl) rfl rfl (by kernel_rfl) (by kernel_rfl) (fun i hi => by show ( 53 + i) < 70; (repeat' split) <;> omega) (fun i j hi hj => by show ( 53 + i) = ( 53 + j) → i = j; (repeat' split) <;> omega) ?step ?fin
      case step =>
        intro L_ A_ w3 ix op_ hi hI ho hdep
        have hcase : ix = 0 ∨ ix = 1 ∨ ix = 2 ∨ ix = 3 ∨ ix = 4 ∨ ix = 5 ∨ ix = 6 ∨ ix = 7 ∨ ix = 8 ∨ ix = 9 ∨ ix = 10 ∨ ix = 11 ∨ ix = 12 ∨ ix = 13 ∨ ix = 14 ∨ ix = 15 ∨ ix = 16 := by omega
        have hh := hI.held
        clear hi
        rcases hcase with rfl | rfl | rfl | rfl | rfl | rfl | rfl | rfl | rfl | rfl | rfl | rfl | rfl | rfl | rfl | rfl | rfl
        · simp only [List.getElem?_toArray, List.getElem?_cons_zero, Option.some.injEq] at ho
          subst ho
          refine ⟨rfl, ?_⟩
          have e0 : A_.tmps[0]?.getD undef = .pointer (some ⟨g, 0, none⟩) := by rw [hI.low 0 (by decide)]; rfl
          clear hI hdep
          exact .run rfl (.pointer (some ⟨g, 0, none⟩)) w3 (by simp [execOp, go_sem, Act.eval, e0]) (Below.refl _ _) rfl
        · simp only [List.getElem?_toArray, List.getElem?_cons_succ, List.getElem?_cons_zero, Option.some.injEq] at ho
          subst ho
          refine ⟨rfl, ?_⟩
          have e53 : A_.tmps[53]?.getD undef = .pointer (some ⟨g, 0, none⟩) := getD_of (hI.val_ (i := 0) rfl rfl (by decide) (hdep ⟨0, .data⟩ (by simp) rfl))
          clear hI hdep
          exact .run rfl (.pointer (some ⟨g, 0, none⟩)) w3 (by simp [execOp, go_sem, Act.eval, e53]) (Below.refl _ _) rfl
        · simp only [List.getElem?_toArray, List.getElem?_cons_succ, List.getElem?_cons_zero, Option.some.injEq] at ho
          subst ho
          refine ⟨rfl, ?_⟩
          have e54 : A_.tmps[54]?.getD undef = .pointer (some ⟨g, 0, none⟩) := getD_of (hI.val_ (i := 1) rfl rfl (by decide) (hdep ⟨1, .data⟩ (by simp) rfl))
          clear hI hdep
          exact .run rfl (.pointer (some ⟨g, 35, none⟩)) w3 (by simp [execOp, go_sem, Act.eval, e54]) (Below.refl _ _) rfl
        · simp only [List.getElem?_toArray, List.getElem?_cons_succ, List.getElem?_cons_zero, Option.some.injEq] at ho
          subst ho
          refine ⟨rfl, ?_⟩
          have e55 : A_.tmps[55]?.getD undef = .pointer (some ⟨g, 35, none⟩) := getD_of (hI.val_ (i := 2) rfl rfl (by decide) (hdep ⟨2, .data⟩ (by simp) rfl))
          clear hI hdep
          have hgw3 := (hh.block _ (blk_lt HP.out.1)).trans HP.out.1; have d0 := mcell hgw3 HP.out.2.1.vars; have d1 := mcell hgw3 HP.out.2.1.acts; have d2 : w3.cell? ⟨g, 38, none⟩ = some (.bool true) := by have := mcell hgw3 HP.out.2.1.stopped; rw [HB.out] at this; exact this
          exact .run rfl (.slice V s1.vars.length vc) w3 (by simp [execOp, go_sem, Act.eval, *]) (Below.refl _ _) rfl
        · simp only [List.getElem?_toArray, List.getElem?_cons_succ, List.getElem?_cons_zero, Option.some.injEq] at ho
          subst ho
          refine ⟨rfl, ?_⟩
          have e0 : A_.tmps[0]?.getD undef = .pointer (some ⟨g, 0, none⟩) := by rw [hI.low 0 (by decide)]; rfl
          clear hI hdep
          exact .run rfl (.pointer (some ⟨g, 0, none⟩)) w3 (by simp [execOp, go_sem, Act.eval, e0]) (Below.refl _ _) rfl
        · simp only [List.getElem?_toArray, List.getElem?_cons_succ, List.getElem?_cons_zero, Option.some.injEq] at ho
          subst ho
          refine ⟨rfl, ?_⟩
          have e57 : A_.tmps[57]?.getD undef = .pointer (some ⟨g, 0, none⟩) := getD_of (hI.val_ (i := 4) rfl rfl (by decide) (hdep ⟨4, .data⟩ (by simp) rfl))
          clear hI hdep
          exact .run rfl (.pointer (some ⟨g, 0, none⟩)) w3 (by simp [execOp, go_sem, Act.eval, e57]) (Below.refl _ _) rfl
        · simp only [List.getElem?_toArray, List.getElem?_cons_succ, List.getElem?_cons_zero, Option.some.injEq] at ho
          subst ho
          refine ⟨rfl, ?_⟩
          have e58 : A_.tmps[58]?.getD undef = .pointer (some ⟨g, 0, none⟩) := getD_of (hI.val_ (i := 5) rfl rfl (by decide) (hdep ⟨5, .data⟩ (by simp) rfl))
          clear hI hdep
          exact .run rfl (.pointer (some ⟨g, 41, none⟩)) w3 (by simp [execOp, go_sem, Act.eval, e58]) (Below.refl _ _) rfl
        · simp only [List.getElem?_toArray, List.getElem?_cons_succ, List.getElem?_cons_zero, Option.some.injEq] at ho
          subst ho
          refine ⟨rfl, ?_⟩
          have e59 : A_.tmps[59]?.getD undef = .pointer (some ⟨g, 41, none⟩) := getD_of (hI.val_ (i := 6) rfl rfl (by decide) (hdep ⟨6, .data⟩ (by simp) rfl))
          clear hI hdep
          have hgw3 := (hh.block _ (blk_lt HP.out.1)).trans HP.out.1; have d0 := mcell hgw3 HP.out.2.1.vars; have d1 := mcell hgw3 HP.out.2.1.acts; have d2 : w3.cell? ⟨g, 38, none⟩ = some (.bool true) := by have := mcell hgw3 HP.out.2.1.stopped; rw [HB.out] at this; exact this
          exact .run rfl (.slice A s1.acts.length ac) w3 (by simp [execOp, go_sem, Act.eval, *]) (Below.refl _ _) rfl
        · simp only [List.getElem?_toArray, List.getElem?_cons_succ, List.getElem?_cons_zero, Option.some.injEq] at ho
          subst ho
          refine ⟨rfl, ?_⟩
          have e6 : A_.tmps[6]?.getD undef = .int .i64 (j : Int) := by rw [hI.low 6 (by decide)]; rfl
          clear hI hdep
          exact .run rfl (.int .i64 (j : Int)) w3 (by simp [execOp, go_sem, Act.eval, e6]) (Below.refl _ _) rfl
        · simp only [List.getElem?_toArray, List.getElem?_cons_succ, List.getElem?_cons_zero, Option.some.injEq] at ho
          subst ho
          refine ⟨rfl, ?_⟩
          have e0 : A_.tmps[0]?.getD undef = .pointer (some ⟨g, 0, none⟩) := by rw [hI.low 0 (by decide)]; rfl
          clear hI hdep
          exact .run rfl (.pointer (some ⟨g, 0, none⟩)) w3 (by simp [execOp, go_sem, Act.eval, e0]) (Below.refl _ _) rfl
        · simp only [List.getElem?_toArray, List.getElem?_cons_succ, List.getElem?_cons_zero, Option.some.injEq] at ho
          subst ho
          refine ⟨rfl, ?_⟩
          have e62 : A_.tmps[62]?.getD undef = .pointer (some ⟨g, 0, none⟩) := getD_of (hI.val_ (i := 9) rfl rfl (by decide) (hdep ⟨9, .data⟩ (by simp) rfl))
          clear hI hdep
          exact .run rfl (.pointer (some ⟨g, 0, none⟩)) w3 (by simp [execOp, go_sem, Act.eval, e62]) (Below.refl _ _) rfl
        · simp only [List.getElem?_toArray, List.getElem?_cons_succ, List.getElem?_cons_zero, Option.some.injEq] at ho
          subst ho
          refine ⟨rfl, ?_⟩
          have e63 : A_.tmps[63]?.getD undef = .pointer (some ⟨g, 0, none⟩) := getD_of (hI.val_ (i := 10) rfl rfl (by decide) (hdep ⟨10, .data⟩ (by simp) rfl))
          clear hI hdep
          exact .run rfl (.pointer (some ⟨g, 38, none⟩)) w3 (by simp [execOp, go_sem, Act.eval, e63]) (Below.refl _ _) rfl
        · simp only [List.getElem?_toArray, List.getElem?_cons_succ, List.getElem?_cons_zero, Option.some.injEq] at ho
          subst ho
          refine ⟨rfl, ?_⟩
          have e64 : A_.tmps[64]?.getD undef = .pointer (some ⟨g, 38, none⟩) := getD_of (hI.val_ (i := 11) rfl rfl (by decide) (hdep ⟨11, .data⟩ (by simp) rfl))
          clear hI hdep
          have hgw3 := (hh.block _ (blk_lt HP.out.1)).trans HP.out.1; have d0 := mcell hgw3 HP.out.2.1.vars; have d1 := mcell hgw3 HP.out.2.1.acts; have d2 : w3.cell? ⟨g, 38, none⟩ = some (.bool true) := by have := mcell hgw3 HP.out.2.1.stopped; rw [HB.out] at this; exact this
          exact .run rfl (.bool true) w3 (by simp [execOp, go_sem, Act.eval, *]) (Below.refl _ _) rfl
        · simp only [List.getElem?_toArray, List.getElem?_cons_succ, List.getElem?_cons_zero, Option.some.injEq] at ho
          subst ho
          refine ⟨rfl, ?_⟩
          have e65 : A_.tmps[65]?.getD undef = .bool true := getD_of (hI.val_ (i := 12) rfl rfl (by decide) (hdep ⟨12, .data⟩ (by simp) rfl))
          clear hI hdep
          exact .run rfl (.bool false) w3 (by simp [execOp, go_sem, Act.eval, e65]) (Below.refl _ _) rfl
        · simp only [List.getElem?_toArray, List.getElem?_cons_succ, List.getElem?_cons_zero, Option.some.injEq] at ho
          subst ho
          refine ⟨rfl, ?_⟩
          have e5 : A_.tmps[5]?.getD undef = .slice (some ⟨w.heap.size + 1, 0, none⟩) 14 14 := by rw [hI.low 5 (by decide)]; rfl
          clear hI hdep
          exact .run rfl (.slice (some ⟨w.heap.size + 1, 0, none⟩) 14 14) w3 (by simp [execOp, go_sem, Act.eval, e5]) (Below.refl _ _) rfl
        · simp only [List.getElem?_toArray, List.getElem?_cons_succ, List.getElem?_cons_zero, Option.some.injEq] at ho
          subst ho
          refine ⟨rfl, ?_⟩
          have e67 : A_.tmps[67]?.getD undef = .slice (some ⟨w.heap.size + 1, 0, none⟩) 14 14 := getD_of (hI.val_ (i := 14) rfl rfl (by decide) (hdep ⟨14, .data⟩ (by simp) rfl))
          clear hI hdep
          exact .call rfl 71 #[.slice (some ⟨w.heap.size + 1, 0, none⟩) 14 14] (by simp [go_sem, Act.eval, e67]) ((marked_c (w.heap.size + 1) 14 ms (by omega) hms ((hh.block _ (blk_lt HK.out)).trans HK.out)).mono fun _ _ ⟨⟨V, m, c, e⟩, hb⟩ => ⟨⟨_, e, V, m, c, rfl⟩, hb⟩)
        · simp only [List.getElem?_toArray, List.getElem?_cons_succ, List.getElem?_cons_zero, Option.some.injEq] at ho
          subst ho
          refine ⟨rfl, ?_⟩
          have e56 : A_.tmps[56]?.getD undef = .slice V s1.vars.length vc := getD_of (hI.val_ (i := 3) rfl rfl (by decide) (hdep ⟨3, .data⟩ (by simp) rfl))
          have e60 : A_.tmps[60]?.getD undef = .slice A s1.acts.length ac := getD_of (hI.val_ (i := 7) rfl rfl (by decide) (hdep ⟨7, .data⟩ (by simp) rfl))
          have e61 : A_.tmps[61]?.getD undef = .int .i64 (j : Int) := getD_of (hI.val_ (i := 8) rfl rfl (by decide) (hdep ⟨8, .data⟩ (by simp) rfl))
          have e66 : A_.tmps[66]?.getD undef = .bool false := getD_of (hI.val_ (i := 13) rfl rfl (by decide) (hdep ⟨13, .data⟩ (by simp) rfl))
          obtain ⟨_, e68, A68, m68, c68, rfl⟩ := hI.get_ (i := 15) (j := 68) rfl rfl (by decide) (hdep ⟨15, .data⟩ (by simp) rfl)
          clear hI hdep
          exact .run rfl (.agg #[.slice V s1.vars.length vc, .slice A s1.acts.length ac, .int .i64 (j : Int), .bool false, .slice A68 m68 c68]) w3 (by simp [execOp, go_sem, Act.eval, e56, e60, e61, e66, e68]) (Below.refl _ _) ⟨A68, m68, c68, rfl⟩
      case fin =>
      intro A_ w3 hs hd hlow hS hok
      obtain ⟨_, hy68, A68, m68, c68, rfl⟩ := hok 15 68 _ (by decide) rfl rfl
      obtain ⟨_, hy69, A69, m69, c69, rfl⟩ := hok 16 69 _ (by decide) rfl rfl
      obtain rfl : A_ = ⟨#[.pointer (some ⟨g, 0, none⟩), .slice (some ⟨gc, 0, none⟩) 14 14, undef, undef, .pointer (some ⟨w.heap.size, 0, none⟩), .slice (some ⟨w.heap.size + 1, 0, none⟩) 14 14, .int .i64 (j : Int), u7, .slice (some ⟨gc, 0, none⟩) 14 14, .int .i64 14, .slice (some ⟨w.heap.size + 1, 0, none⟩) 14 14, .pointer (some ⟨g, 0, none⟩), .pointer (some ⟨g, 0, none⟩), .pointer (some ⟨g, 38, none⟩), .bool true, .bool false, .bool false, undef, undef, .bool false, u20, u21, u22, u23, u24, u25, u26, u27, u28, u29, u30, u31, u32, u33, u34, u35, u36, u37, u38, u39, u40, u41, u42, u43, u44, u45, u46, u47, u48, u49, u50, u51, u52, .pointer (some ⟨g, 0, none⟩), .pointer (some ⟨g, 0, none⟩), .pointer (some ⟨g, 35, none⟩), .slice V s1.vars.length vc, .pointer (some ⟨g, 0, none⟩), .pointer (some ⟨g, 0, none⟩), .pointer (some ⟨g, 41, none⟩), .slice A s1.acts.length ac, .int .i64 (j : Int), .pointer (some ⟨g, 0, none⟩), .pointer (some ⟨g, 0, none⟩), .pointer (some ⟨g, 38, none⟩), .bool true, .bool false, .slice (some ⟨w.heap.size + 1, 0, none⟩) 14 14, .slice A68 m68 c68, .agg #[.slice V s1.vars.length vc, .slice A s1.acts.length ac, .int .i64 (j : Int), .bool false, .slice A69 m69 c69]], []⟩ := act_ext hd hs (fun j hj => match j, hj with | 0, _ => (hlow 0 (by decide)).trans rfl | 1, _ => (hlow 1 (by decide)).trans rfl | 2, _ => (hlow 2 (by decide)).trans rfl | 3, _ => (hlow 3 (by decide)).trans rfl | 4, _ => (hlow 4 (by decide)).trans rfl | 5, _ => (hlow 5 (by decide)).trans rfl | 6, _ => (hlow 6 (by decide)).trans rfl | 7, _ => (hlow 7 (by decide)).trans rfl | 8, _ => (hlow 8 (by decide)).trans rfl | 9, _ => (hlow 9 (by decide)).trans rfl | 10, _ => (hlow 10 (by decide)).trans rfl | 11, _ => (hlow 11 (by decide)).trans rfl | 12, _ => (hlow 12 (by decide)).trans rfl | 13, _ => (hlow 13 (by decide)).trans rfl | 14, _ => (hlow 14 (by decide)).trans rfl | 15, _ => (hlow 15 (by decide)).trans rfl | 16, _ => (hlow 16 (by decide)).trans rfl | 17, _ => (hlow 17 (by decide)).trans rfl | 18, _ => (hlow 18 (by decide)).trans rfl | 19, _ => (hlow 19 (by decide)).trans rfl | 20, _ => (hlow 20 (by decide)).trans rfl | 21, _ => (hlow 21 (by decide)).trans rfl | 22, _ => (hlow 22 (by decide)).trans rfl | 23, _ => (hlow 23 (by decide)).trans rfl | 24, _ => (hlow 24 (by decide)).trans rfl | 25, _ => (hlow 25 (by decide)).trans rfl | 26, _ => (hlow 26 (by decide)).trans rfl | 27, _ => (hlow 27 (by decide)).trans rfl | 28, _ => (hlow 28 (by decide)).trans rfl | 29, _ => (hlow 29 (by decide)).trans rfl | 30, _ => (hlow 30 (by decide)).trans rfl | 31, _ => (hlow 31 (by decide)).trans rfl | 32, _ => (hlow 32 (by decide)).trans rfl | 33, _ => (hlow 33 (by decide)).trans rfl | 34, _ => (hlow 34 (by decide)).trans rfl | 35, _ => (hlow 35 (by decide)).trans rfl | 36, _ => (hlow 36 (by decide)).trans rfl | 37, _ => (hlow 37 (by decide)).trans rfl | 38, _ => (hlow 38 (by decide)).trans rfl | 39, _ => (hlow 39 (by decide)).trans rfl | 40, _ => (hlow 40 (by decide)).trans rfl | 41, _ => (hlow 41 (by decide)).trans rfl | 42, _ => (hlow 42 (by decide)).trans rfl | 43, _ => (hlow 43 (by decide)).trans rfl | 44, _ => (hlow 44 (by decide)).trans rfl | 45, _ => (hlow 45 (by decide)).trans rfl | 46, _ => (hlow 46 (by decide)).trans rfl | 47, _ => (hlow 47 (by decide)).trans rfl | 48, _ => (hlow 48 (by decide)).trans rfl | 49, _ => (hlow 49 (by decide)).trans rfl | 50, _ => (hlow 50 (by decide)).trans rfl | 51, _ => (hlow 51 (by decide)).trans rfl | 52, _ => (hlow 52 (by decide)).trans rfl | 53, _ => RgX.val_at (hok 0 53 _ (by decide) rfl rfl) | 54, _ => RgX.val_at (hok 1 54 _ (by decide) rfl rfl) | 55, _ => RgX.val_at (hok 2 55 _ (by decide) rfl rfl) | 56, _ => RgX.val_at (hok 3 56 _ (by decide) rfl rfl) | 57, _ => RgX.val_at (hok 4 57 _ (by decide) rfl rfl) | 58, _ => RgX.val_at (hok 5 58 _ (by decide) rfl rfl) | 59, _ => RgX.val_at (hok 6 59 _ (by decide) rfl rfl) | 60, _ => RgX.val_at (hok 7 60 _ (by decide) rfl rfl) | 61, _ => RgX.val_at (hok 8 61 _ (by decide) rfl rfl) | 62, _ => RgX.val_at (hok 9 62 _ (by decide) rfl rfl) | 63, _ => RgX.val_at (hok 10 63 _ (by decide) rfl rfl) | 64, _ => RgX.val_at (hok 11 64 _ (by decide) rfl rfl) | 65, _ => RgX.val_at (hok 12 65 _ (by decide) rfl rfl) | 66, _ => RgX.val_at (hok 13 66 _ (by decide) rfl rfl) | 67, _ => RgX.val_at (hok 14 67 _ (by decide) rfl rfl) | 68, _ => hy68 | 69, _ => hy69 | n + 70, h => absurd h (by show ¬ n + 70 < 70; omega))
      clear hs hd hlow hok hy68 hy69
      have hr3 := (hS.block _ (blk_lt HR.out)).trans HR.out
      have hrB : B ≤ w.heap.size := hB
      refine RgX.wpList_store_seg rfl 58 _ _ rfl w.heap.size 0 (.agg #[.slice V s1.vars.length vc, .slice A s1.acts.length ac, .int .i64 (j : Int), .bool false, .slice A69 m69 c69]) rfl rfl 58 _ hr3 vm_sz_out (by show 0 + 5 ≤ 5; omega) (by simp [Value.cells, Value.oneCell']) #[.slice V s1.vars.length vc, .slice A s1.acts.length ac, .int .i64 (j : Int), .bool false, .slice A69 m69 c69] rfl ?_
      intro u4 k4 o4 z4 b4
      obtain ⟨c, pc, hc, _, hv, _, _, hw, ha, _, _, hst, hpc⟩ := HJ.out
      have hp14 : pc = 14 := by have := HB.out; rw [hst] at this; simpa using this
      have hcn : c = n := by omega
      have hal : s1.acts.length ≤ 500 := by omega
      subst hcn
      have o1 := own_other' (dk_own_keep HP.out.2.2.1 hS) o4 (ne_ty (dk_own_keep HP.out.2.2.1 hS) hr3 (by decide))
      have o2 := own_other' (dk_own_keep HP.out.2.2.2.2.1 hS) o4 (ne_ty (dk_own_keep HP.out.2.2.2.2.1 hS) hr3 (by decide))
      have hbl : Below B w u4 := (HW.out.trans (hS.mono (by have := HW.out.size; omega))).trans (b4.mono hB)
      have hvl : s1.vars.length = 1 := by rw [hv]; rfl
      have HX := Lib.hid (show RunIs B c u4 (.agg #[.slice V s1.vars.length vc, .slice A s1.acts.length ac, .int .i64 (j : Int), .bool false, .slice A69 m69 c69]) from ⟨V, A, A69, vc, ac, m69, c69, (j : Int), s1.acts, by rw [hvl], by rw [hv] at o1; exact o1, o2, hw, hal⟩)
      have HY := Lib.hid (And.intro k4 hbl)
      clear k4 o4 z4 b4 o1 o2 hbl hvl hw ha hal hv hst hpc hr3 hS HJ
      go_wp2_with fail
      exact bodyPost_ret (results_cell_row rfl _ u4 w.heap.size _ #[.slice V s1.vars.length vc, .slice A s1.acts.length ac, .int .i64 (j : Int), .bool false, .slice A69 m69 c69] (0, 0) _ rfl HY.out.1 Try.underlying58 rfl vm_sz_out) rfl ⟨⟨_, rfl, HX.out⟩, HY.out.2⟩
end Go.Proofs.Ytgdefhlcgmibcaa
