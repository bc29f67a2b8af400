/-
  The parser's declaration. Conditions: the parser stands between declarations; the word that begins it is the next token. Written by wip/gen/decl.py.
-/
import Derived.Test.YtlfpaemfhanpiaaGreatDoorK29
import Derived.Test.YtlfpaemfhanpiaaGreatDoorK4
import Derived.Test.YtlfpaemfhanpiaaGreatDoorK27
import Derived.Deep.Cut

namespace Go.Proofs.YtlfpaemfhanpiaaGreatDoor
open Go Go.RowKit Go.Proofs
attribute [local go_sem] Oper.semAt_some field0 field1 field2 field3

/-- What follows a name. -/
def nameL (other own : List PS.Bs) : List LX.Tok → PS.PR (List PS.Bs)
  | [] => .out
  | c :: w => if c.text = PS.yComma then PS.names other own w else if c.text = PS.ySemi then .ok own w else .err c.pos 10
theorem names_v {d v : List PS.Bs} {t : LX.Tok} {u : List LX.Tok} (hg : PS.Good (t :: u)) : PS.names d v (t :: u) = (declM d v (t :: u)).bind fun s r => nameL d (v ++ [s]) r := by
  cases u with
  | nil =>
    have h1 : ¬ PS.isName t = true := fun h => by obtain ⟨_, _, e⟩ := (PS.isName_text hg h).ne; cases e
    simp only [PS.names, declM, if_neg h1, PS.PR.bind_err]
  | cons c w =>
    simp only [PS.names, declM]
    by_cases h1 : PS.isName t = true
    · rw [if_pos h1, if_pos h1]
      by_cases h2 : t.text ∈ v ∨ t.text ∈ d
      · rw [if_pos h2, if_pos h2.symm, PS.PR.bind_err]
      · rw [if_neg h2, if_neg (fun h : t.text ∈ d ∨ t.text ∈ v => h2 h.symm), Nat.add_comm v.length]
        by_cases h3 : d.length + v.length = 16
        · rw [if_pos h3, if_pos h3, PS.PR.bind_err]
        · rw [if_neg h3, if_neg h3, PS.PR.bind_ok]
          rfl
    · rw [if_neg h1, if_neg h1, PS.PR.bind_err]
theorem declM_comm (d v : List PS.Bs) (ts : List LX.Tok) : declM d v ts = declM v d ts := by
  cases ts with
  | nil => rfl
  | cons t u => simp only [declM, or_comm, Nat.add_comm]
theorem names_d {d v : List PS.Bs} {t : LX.Tok} {u : List LX.Tok} (hg : PS.Good (t :: u)) : PS.names v d (t :: u) = (declM d v (t :: u)).bind fun s r => nameL v (d ++ [s]) r := by
  rw [declM_comm]
  exact names_v hg
theorem declM_few {d v : List PS.Bs} {ts r : List LX.Tok} {s : PS.Bs} (h : declM d v ts = .ok s r) (hm : d.length + v.length ≤ 16) : d.length + v.length < 16 := by
  cases ts with
  | nil => cases h
  | cons t u =>
    simp only [declM] at h
    split at h
    · split at h
      · cases h
      · split at h
        · cases h
        · omega
    · cases h
theorem declM_len {d v : List PS.Bs} {t : LX.Tok} {u r : List LX.Tok} {s : PS.Bs} (h : declM d v (t :: u) = .ok s r) : r.length = u.length := by
  simp only [declM] at h
  split at h
  · split at h
    · cases h
    · split at h
      · cases h
      · injection h with _ h
        rw [h]
  · cases h
theorem declared_at {V : World} {K : Pc} {ts : List LX.Tok} {lo : Nat} {d v : List PS.Bs} {R : PS.PR PS.Bs} (h : Tp V lo K ts d v) (hR : declM d v ts = R) :
    Calls Tryz.prog 81 #[.pointer (some ⟨K.g, 0, none⟩)] V (URes V K 0 (fun s : PS.Bs => .string (PS.bs s)) R) := hR ▸ declared_any V K ts 0 lo d v h.pat h.dur h.vol (by have := h.few; omega)
theorem Dl.alloc {W : World} {lo : Nat} {x : Value} {l : List PS.Bs} (h : Dl W lo x l) (o : Obj) : (W.alloc o).ownsRow lo 9 1 x l.length (l.map fun s => Value.string (PS.bs s)) := h.keep fun b hb => Below.heap_alloc W o b (h.lt b hb).2
theorem Tp.kept {w5 w6 : World} {lo : Nat} {K : Pc} {ts : List LX.Tok} {d v : List PS.Bs} {X : Obj} {y : Value} (h : Tp w5 lo K ts d v) (hg : (w5.alloc X).grownBy w6 y.ownBlock) (hy : ∀ b, y.ownBlock = some b → lo ≤ b ∧ b < w5.heap.size) : w6.heap[K.g]? = w5.heap[K.g]? := by
  have hl := h.pat.lt
  have hgl := h.g
  exact (hg.block _ (by rw [World.size_alloc]; omega) (fun e => by have := (hy _ e.symm).1; omega)).trans (Below.heap_alloc w5 X _ hl)
theorem Tp.kept_d {w5 W' : World} {lo : Nat} {K : Pc} {ts : List LX.Tok} {d v : List PS.Bs} {X : Obj} {y : Value} (h : Tp w5 lo K ts d v) (hg : (w5.alloc X).grownBy W' y.ownBlock) (hy : ∀ b, y.ownBlock = some b → lo ≤ b ∧ b < w5.heap.size) : W'.cell? ⟨K.g, 2, none⟩ = some K.dv ∧ W'.frozen? ⟨K.g, 2, none⟩ = false := by
  have hk := h.kept hg hy
  obtain ⟨off, c0, e1, _⟩ := h.pat
  have e2 := hk.trans e1
  exact ⟨cell_of_row W' _ 2 _ _ (0, 0) e2, by simp [World.frozen?, e2]⟩
theorem Tp.kept_v {w5 W' : World} {lo : Nat} {K : Pc} {ts : List LX.Tok} {d v : List PS.Bs} {X : Obj} {y : Value} (h : Tp w5 lo K ts d v) (hg : (w5.alloc X).grownBy W' y.ownBlock) (hy : ∀ b, y.ownBlock = some b → lo ≤ b ∧ b < w5.heap.size) : W'.cell? ⟨K.g, 3, none⟩ = some K.vv ∧ W'.frozen? ⟨K.g, 3, none⟩ = false := by
  have hk := h.kept hg hy
  obtain ⟨off, c0, e1, _⟩ := h.pat
  have e2 := hk.trans e1
  exact ⟨cell_of_row W' _ 3 _ _ (0, 0) e2, by simp [World.frozen?, e2]⟩
/-- What a declaration does that began at V. -/
def DRes (V : World) (lo g : Nat) (T : List PS.Bs → List LX.Tok → World → Prop) (R : PS.PR (List PS.Bs)) (e : Ending) (w' : World) : Prop :=
  Chg (Sg g lo) V w' ∧ match R with
  | .ok l r => e = .returned (.tuple #[]) ∧ T l r w'
  | .err p c => e = failV p c
  | .out => False
set_option maxRecDepth 100000 in
set_option maxHeartbeats 16000000 in
theorem decl_d (V : World) (lo tb g mb : Nat) (dv vv ov mv : Value) (mo : Obj) (t : LX.Tok) (u : List LX.Tok) (d v : List PS.Bs) (ht : t.text = PS.wDurable) (h : Tp V lo (Pc.mk tb g dv vv ov mv mb mo) (t :: u) d v) (hR : PS.names v d u ≠ .out) :
    Calls Tryz.prog 57 #[.pointer (some ⟨g, 0, none⟩)] V (DRes V lo g (fun l r W => ∃ x, Tp W lo (Pc.mk tb g x vv ov mv mb mo) r l v) (PS.names v d u)) := by
  obtain ⟨R, hRR⟩ : ∃ R, PS.names v d u = R := ⟨_, rfl⟩
  rw [hRR] at hR ⊢
  have hgu := h.pat.good.tail (by rw [ht]; decide)
  have e1 : (t.text == PS.wDurable) = true := by rw [ht]; decide
  have H := Lib.hid h
  clear h ht
  obtain ⟨t2, u2, rfl⟩ := hgu.ne
  rw [names_d hgu] at hRR
  have HM := Lib.hid (take_any V (Pc.mk tb g dv vv ov mv mb mo) t (t2 :: u2) 0 H.out.pat hgu)
  have y2 : V.cell? ⟨g, 0, none⟩ = V.cell? ⟨g, 0, none⟩ := rfl
  obtain ⟨i0, hi0, hz0, hz1, hz2⟩ := info_parts infoS
  have HZ := Lib.hid (And.intro hi0 (And.intro hz0 (And.intro hz1 hz2)))
  clear hi0 hz0 hz1 hz2 y2 hgu
  go_enter Tryz.func57, Tryz.ntmps57
  go_wp2_with (first
    | (go_at_call 79; refine HM.out.mono ?_; clear HM; rintro e w2 ⟨rfl, hP, hC⟩; have T2 := Lib.hid (H.out.step hC hP); have C2 := Lib.hid (show Chg (Sg g lo) V w2 from hC.mono (fun _ _ e => .inl e)); clear hC hP))
  cases hx : declM d v (t2 :: u2) with
  | out => rw [hx] at hRR; exact absurd hRR.symm hR
  | err q c =>
    rw [hx] at hRR
    have hRR : PS.PR.err q c = R := hRR
    obtain rfl := hRR
    have HM := Lib.hid (fun (W : World) (hW : Tp W lo (Pc.mk tb g dv vv ov mv mb mo) (t2 :: u2) d v) => declared_at hW hx)
    have D2 := Lib.hid (T2.out.pat.cell23)
    obtain ⟨c2, c3⟩ := D2.out
    dsimp only at c2 c3
    clear hx hR
    refine region_dies2 10 15 99 5 [5, 6, 7, 8, 9] (15 + ·) (fun i => match i with | 0 => .val (.pointer (some ⟨g, 2, none⟩)) | 1 => .val (.pointer (some ⟨g, 2, none⟩)) | 2 => .val (.pointer (some ⟨g, 2, none⟩)) | 3 => .val dv | 4 => .val (.pointer (some ⟨g, 0, none⟩)) | _ => .val undef) (by kernel_rfl) rfl (by decide) (by decide) (by kernel_rfl) (by kernel_rfl) ?step ?dies
    case step =>
      intro listed a i hI hi hic hdep
      have hsl : ∀ i, i < 10 → 15 + i < 39 ∧ (15 ≤ 15 + i ∨ 15 + i = 99) := fun i hi => by omega
      have hij : ∀ i j : Nat, i < 10 → j < 10 → 15 + i = 15 + j → i = j := fun i j _ _ h => by omega
      have p2 : a.tmps[2]?.getD undef = .pointer (some ⟨g, 2, none⟩) := by rw [hI.low 2 (by decide) (by decide)]; rfl
      have p0 : a.tmps[0]?.getD undef = .pointer (some ⟨g, 0, none⟩) := by rw [hI.low 0 (by decide) (by decide)]; rfl
      have hcase : i = 0 ∨ i = 1 ∨ i = 2 ∨ i = 3 ∨ i = 4 := by simp at hic; omega
      rcases hcase with rfl | rfl | rfl | rfl | rfl
      · exact st_same hsl hij hI (by decide) rfl rfl rfl (by simp [execOp, go_sem, Act.eval, p2]) rfl
      · exact st_same hsl hij hI (by decide) rfl rfl rfl (by simp [execOp, go_sem, Act.eval, p2]) rfl
      · have e8 : a.tmps[16]?.getD undef = .pointer (some ⟨g, 2, none⟩) := hI.ok 1 (by decide) (hdep _ rfl ⟨1, .data⟩ (by simp) rfl)
        exact st_same hsl hij hI (by decide) rfl rfl rfl (by simp [execOp, go_sem, Act.eval, e8]) rfl
      · have e8 : a.tmps[17]?.getD undef = .pointer (some ⟨g, 2, none⟩) := hI.ok 2 (by decide) (hdep _ rfl ⟨2, .data⟩ (by simp) rfl)
        exact st_same hsl hij hI (by decide) rfl rfl rfl (by simp [execOp, go_sem, Act.eval, e8, c2]) rfl
      · exact st_same hsl hij hI (by decide) rfl rfl rfl (by simp [execOp, go_sem, Act.eval, p0]) rfl
    case dies =>
      intro listed a hI hdep
      have e10 : a.tmps[19]?.getD undef = .pointer (some ⟨g, 0, none⟩) := hI.ok 4 (by decide) (hdep _ rfl ⟨4, .data⟩ (by simp) rfl)
      have hdf := hI.defers
      refine st_dies rfl rfl (f := 81) (args := #[.pointer (some ⟨g, 0, none⟩)]) (by simp [execOp, go_sem, Act.eval, e10]) ((HM.out _ T2.out.drew).mono (fun e w' h => ⟨h.2, h.1⟩)) (fun w' hz => ?_)
      exact ⟨hdf, C2.out.drew.trans hz (fun _ _ e => .inl e), rfl⟩
  | ok s r' =>
    rw [hx] at hRR
    have HRR := Lib.hid (show nameL v (d ++ [s]) r' = R from hRR)
    clear hRR H
    go_cut [2] from 3 (fun s2 W => s2 = .pointer (some ⟨g, 2, none⟩) ∧ ∃ x, Hid (Tp W lo (Pc.mk tb g x vv ov mv mb mo) r' (d ++ [s]) v) ∧ Hid (Chg (Sg g lo) V W))
    case first =>
      have HM := Lib.hid (fun (W : World) (hW : Tp W lo (Pc.mk tb g dv vv ov mv mb mo) (t2 :: u2) d v) => declared_at hW hx)
      have hfew := declM_few hx T2.out.few
      have hlg : g < lo := T2.out.g
      obtain ⟨Ad, cd, ed, _⟩ := T2.out.dur.form
      dsimp only at ed
      subst ed
      have y2 : w2.cell? ⟨g, 2, none⟩ = some (.slice Ad d.length cd) := T2.out.pat.cell23.1
      clear hx
      go_region_law
        (first
          | (go_simp; go_at_call 81; refine (HM.out _ T2.out.drew).mono ?_; clear HM; rintro e w5 ⟨hC, rfl, hP⟩
             have T5 := Lib.hid (T2.out.drew.step hC hP)
             have C5 := Lib.hid (show Chg (Sg g lo) w2 w5 from ((Chg.refl (Sg g lo) w2).drew.trans hC (fun _ _ h => .inl h)))
             have z5 : lo ≤ w5.heap.size := T5.out.big
             have e5 : w5.cell? ⟨g, 2, none⟩ = some (.slice Ad d.length cd) := T5.out.pat.cell23.1
             have d5 : (w5.alloc (.cells #[.string (PS.bs s)] 9)).cell? ⟨g, 2, none⟩ = some (.slice Ad d.length cd) := (((Below.refl w5.heap.size w5).alloc (Nat.le_refl _) _).cell (p := ⟨g, 2, none⟩) T5.out.pat.lt).trans e5
             have HO5 := Lib.hid (T5.out.dur.alloc (.cells #[.string (PS.bs s)] 9))
             clear hC hP)
          | (refine step_append_lies _ rfl (.tmp 18) (.tmp 21) 23 rfl lo 9 i0 _ 1 16 Tryz.underlying23 HZ.out.1 HZ.out.2.1 HZ.out.2.2.1 HZ.out.2.2.2 rfl (by decide) (.slice Ad d.length cd) d.length _ (by simp [Act.eval]) HO5.out ⟨w5.heap.size, 0, none⟩ 1 1 [.string (PS.bs s)] (by simp [Act.eval]) rfl (news_alloc _ _ _ _ rfl) (by simp [Value.oneCell']) (by decide) (by simp only [maxLen]; omega) (by omega) (by first | (simp; done) | (simp; omega)) _ rfl ?_; intro g4 c4 w6 hown4 hgrow4 hat4 _; obtain ⟨d6, f6⟩ := T5.out.kept_d (W' := w6) hgrow4 T5.out.dur.lt; have hat5 : (Value.slice Ad d.length cd).ownBlock = some g4 ∨ w5.heap.size ≤ g4 := hat4.imp id (fun h => by rw [h, World.size_alloc]; omega); dsimp only at d6 f6))
      all_goals
        obtain ⟨U, hU⟩ : ∃ U, w6.setCell ⟨g, 2, none⟩ (.slice (some ⟨g4, 0, none⟩) (d.length + 1) c4) = U := ⟨_, rfl⟩
        have hm := T5.out.more_d (s := s) rfl hgrow4 hat5 hown4 rfl hfew hU
        have HU := Lib.hid hU
        have TU := Lib.hid hm.1
        have CU := Lib.hid (C2.out.trans (C5.out.trans hm.2 (fun _ _ h => h)) (fun _ _ h => h))
        clear hm hU
        go_wp2_with fail
        rw [HU.out]
        go_meet
        exact ⟨rfl, _, TU.out, CU.out⟩
    case rest =>
    obtain ⟨rfl, x0, T0, C0⟩ := hcut
    clear T2 C2 hx
    go_wp2_with fail
    go_loopw [24] (fun _ W => ∃ (own : List PS.Bs) (r : List LX.Tok) (x : Value), Hid (nameL v own r = R) ∧ Hid (Tp W lo (Pc.mk tb g x vv ov mv mb mo) r own v) ∧ Hid (Chg (Sg g lo) V W)) (fun _ W => restLen W g)
    case atStart => exact ⟨_, _, x0, HRR.out, T0.out, C0.out⟩
    case round =>
    obtain ⟨own, r, x, hE, T3, C3⟩ := hrel
    clear HRR T0 C0
    obtain ⟨c, w, rfl⟩ := T3.out.pat.good.ne
    have hgd := T3.out.pat.good
    have hE : nameL v own (c :: w) = R := hE.out
    have HN := Lib.hid (sees_any wr (Pc.mk tb g x vv ov mv mb mo) c w 0 PS.yComma T3.out.pat)
    have RW := Lib.hid (show restLen wr g = (c :: w).length from T3.out.pat.rest)
    by_cases hc : c.text = PS.yComma
    · have hb : (c.text == PS.yComma) = true := by rw [beq_iff_eq]; exact hc
      have hgw := hgd.tail (by rw [hc]; decide)
      simp only [nameL, if_pos hc] at hE
      rw [hb] at HN
      clear hc hb hgd
      obtain ⟨t2, u2, rfl⟩ := hgw.ne
      rw [names_d hgw] at hE
      have HT := Lib.hid (fun (W : World) (hW : Tp W lo (Pc.mk tb g x vv ov mv mb mo) (c :: t2 :: u2) own v) => take_any W (Pc.mk tb g x vv ov mv mb mo) c (t2 :: u2) 0 hW.pat hgw)
      clear hgw
      go_wp2_with (first
        | (go_at_call 56; refine HN.out.mono ?_; clear HN; rintro e w4 ⟨rfl, hb4⟩; have T4 := Lib.hid (T3.out.below hb4); have C4 := Lib.hid (C3.out.trans (chgB (S := Sg g lo) hb4) (fun _ _ h => h)); clear hb4)
        | (go_at_call 79; refine (HT.out _ T4.out).mono ?_; clear HT; rintro e w2 ⟨rfl, hP, hC⟩; have T2 := Lib.hid (T4.out.step hC hP); have C2 := Lib.hid (show Chg (Sg g lo) V w2 from C4.out.trans hC (fun _ _ e => .inl e)); clear hC hP))
      clear T3 C3 T4 C4
      cases hx : declM own v (t2 :: u2) with
      | out => rw [hx] at hE; exact absurd hE.symm hR
      | err q c =>
        rw [hx] at hE
        have hE : PS.PR.err q c = R := hE
        obtain rfl := hE
        have HM := Lib.hid (fun (W : World) (hW : Tp W lo (Pc.mk tb g x vv ov mv mb mo) (t2 :: u2) own v) => declared_at hW hx)
        have D2 := Lib.hid (T2.out.pat.cell23)
        obtain ⟨c2, c3⟩ := D2.out
        dsimp only at c2 c3
        clear hx hR
        refine region_dies2 10 28 99 5 [5, 6, 7, 8, 9] (28 + ·) (fun i => match i with | 0 => .val (.pointer (some ⟨g, 2, none⟩)) | 1 => .val (.pointer (some ⟨g, 2, none⟩)) | 2 => .val (.pointer (some ⟨g, 2, none⟩)) | 3 => .val x | 4 => .val (.pointer (some ⟨g, 0, none⟩)) | _ => .val undef) (by kernel_rfl) rfl (by decide) (by decide) (by kernel_rfl) (by kernel_rfl) ?step ?dies
        case step =>
          intro listed a i hI hi hic hdep
          have hsl : ∀ i, i < 10 → 28 + i < 39 ∧ (28 ≤ 28 + i ∨ 28 + i = 99) := fun i hi => by omega
          have hij : ∀ i j : Nat, i < 10 → j < 10 → 28 + i = 28 + j → i = j := fun i j _ _ h => by omega
          have p2 : a.tmps[2]?.getD undef = .pointer (some ⟨g, 2, none⟩) := by rw [hI.low 2 (by decide) (by decide)]; rfl
          have p0 : a.tmps[0]?.getD undef = .pointer (some ⟨g, 0, none⟩) := by rw [hI.low 0 (by decide) (by decide)]; rfl
          have hcase : i = 0 ∨ i = 1 ∨ i = 2 ∨ i = 3 ∨ i = 4 := by simp at hic; omega
          rcases hcase with rfl | rfl | rfl | rfl | rfl
          · exact st_same hsl hij hI (by decide) rfl rfl rfl (by simp [execOp, go_sem, Act.eval, p2]) rfl
          · exact st_same hsl hij hI (by decide) rfl rfl rfl (by simp [execOp, go_sem, Act.eval, p2]) rfl
          · have e8 : a.tmps[29]?.getD undef = .pointer (some ⟨g, 2, none⟩) := hI.ok 1 (by decide) (hdep _ rfl ⟨1, .data⟩ (by simp) rfl)
            exact st_same hsl hij hI (by decide) rfl rfl rfl (by simp [execOp, go_sem, Act.eval, e8]) rfl
          · have e8 : a.tmps[30]?.getD undef = .pointer (some ⟨g, 2, none⟩) := hI.ok 2 (by decide) (hdep _ rfl ⟨2, .data⟩ (by simp) rfl)
            exact st_same hsl hij hI (by decide) rfl rfl rfl (by simp [execOp, go_sem, Act.eval, e8, c2]) rfl
          · exact st_same hsl hij hI (by decide) rfl rfl rfl (by simp [execOp, go_sem, Act.eval, p0]) rfl
        case dies =>
          intro listed a hI hdep
          have e10 : a.tmps[32]?.getD undef = .pointer (some ⟨g, 0, none⟩) := hI.ok 4 (by decide) (hdep _ rfl ⟨4, .data⟩ (by simp) rfl)
          have hdf := hI.defers
          refine st_dies rfl rfl (f := 81) (args := #[.pointer (some ⟨g, 0, none⟩)]) (by simp [execOp, go_sem, Act.eval, e10]) ((HM.out _ T2.out.drew).mono (fun e w' h => ⟨h.2, h.1⟩)) (fun w' hz => ?_)
          exact ⟨hdf, C2.out.drew.trans hz (fun _ _ e => .inl e), rfl⟩
      | ok s r' =>
        rw [hx] at hE
        have HE := Lib.hid (show nameL v (own ++ [s]) r' = R from hE)
        have hlen := declM_len hx
        clear hE
        have HM := Lib.hid (fun (W : World) (hW : Tp W lo (Pc.mk tb g x vv ov mv mb mo) (t2 :: u2) own v) => declared_at hW hx)
        have hfew := declM_few hx T2.out.few
        have hlg : g < lo := T2.out.g
        obtain ⟨Ad, cd, ed, _⟩ := T2.out.dur.form
        dsimp only at ed
        subst ed
        have y2 : w2.cell? ⟨g, 2, none⟩ = some (.slice Ad own.length cd) := T2.out.pat.cell23.1
        clear hx
        go_region_law
          (first
            | (go_simp; go_at_call 81; refine (HM.out _ T2.out.drew).mono ?_; clear HM; rintro e w5 ⟨hC, rfl, hP⟩
               have T5 := Lib.hid (T2.out.drew.step hC hP)
               have C5 := Lib.hid (show Chg (Sg g lo) w2 w5 from ((Chg.refl (Sg g lo) w2).drew.trans hC (fun _ _ h => .inl h)))
               have z5 : lo ≤ w5.heap.size := T5.out.big
               have e5 : w5.cell? ⟨g, 2, none⟩ = some (.slice Ad own.length cd) := T5.out.pat.cell23.1
               have d5 : (w5.alloc (.cells #[.string (PS.bs s)] 9)).cell? ⟨g, 2, none⟩ = some (.slice Ad own.length cd) := (((Below.refl w5.heap.size w5).alloc (Nat.le_refl _) _).cell (p := ⟨g, 2, none⟩) T5.out.pat.lt).trans e5
               have HO5 := Lib.hid (T5.out.dur.alloc (.cells #[.string (PS.bs s)] 9))
               clear hC hP)
            | (refine step_append_lies _ rfl (.tmp 31) (.tmp 34) 23 rfl lo 9 i0 _ 1 16 Tryz.underlying23 HZ.out.1 HZ.out.2.1 HZ.out.2.2.1 HZ.out.2.2.2 rfl (by decide) (.slice Ad own.length cd) own.length _ (by simp [Act.eval]) HO5.out ⟨w5.heap.size, 0, none⟩ 1 1 [.string (PS.bs s)] (by simp [Act.eval]) rfl (news_alloc _ _ _ _ rfl) (by simp [Value.oneCell']) (by decide) (by simp only [maxLen]; omega) (by omega) (by first | (simp; done) | (simp; omega)) _ rfl ?_; intro g4 c4 w6 hown4 hgrow4 hat4 _; obtain ⟨d6, f6⟩ := T5.out.kept_d (W' := w6) hgrow4 T5.out.dur.lt; have hat5 : (Value.slice Ad own.length cd).ownBlock = some g4 ∨ w5.heap.size ≤ g4 := hat4.imp id (fun h => by rw [h, World.size_alloc]; omega); dsimp only at d6 f6))
        all_goals
          obtain ⟨U, hU⟩ : ∃ U, w6.setCell ⟨g, 2, none⟩ (.slice (some ⟨g4, 0, none⟩) (own.length + 1) c4) = U := ⟨_, rfl⟩
          have hm := T5.out.more_d (s := s) rfl hgrow4 hat5 hown4 rfl hfew hU
          have HU := Lib.hid hU
          have TU := Lib.hid hm.1
          have CU := Lib.hid (C2.out.trans (C5.out.trans hm.2 (fun _ _ h => h)) (fun _ _ h => h))
          clear hm hU
          go_wp2_with fail
          rw [HU.out]
          refine ⟨⟨_, _, _, HE.out, TU.out, CU.out⟩, ?_⟩
          rw [RW.out, show restLen U g = r'.length from TU.out.pat.rest, List.length_cons, List.length_cons]
          omega
    · have hb : (c.text == PS.yComma) = false := by rw [beq_eq_false_iff_ne]; exact hc
      simp only [nameL, if_neg hc] at hE
      rw [hb] at HN
      clear hc hb
      by_cases hs : c.text = PS.ySemi
      · rw [if_pos hs] at hE
        obtain rfl := hE
        have HT := Lib.hid (fun (W : World) (hW : Tp W lo (Pc.mk tb g x vv ov mv mb mo) (c :: w) own v) => must_at hW.pat (by decide) (show PS.must PS.ySemi (c :: w) = .ok () w by simp only [PS.must, if_pos hs]))
        clear hs hgd hR
        go_wp2_with (first
          | (go_at_call 56; refine HN.out.mono ?_; clear HN; rintro e w4 ⟨rfl, hb4⟩; have T4 := Lib.hid (T3.out.below hb4); have C4 := Lib.hid (C3.out.trans (chgB (S := Sg g lo) hb4) (fun _ _ h => h)); clear hb4)
          | (go_at_call 76; refine (HT.out _ T4.out).mono ?_; clear HT; rintro e w5 ⟨hC, rfl, hP⟩))
        go_end0
        exact ⟨C4.out.trans hC (fun _ _ e => .inl e), rfl, x, T4.out.step hC hP⟩
      · rw [if_neg hs] at hE
        obtain rfl := hE
        have HT := Lib.hid (fun (W : World) (hW : Tp W lo (Pc.mk tb g x vv ov mv mb mo) (c :: w) own v) => must_at hW.pat (by decide) (show PS.must PS.ySemi (c :: w) = .err c.pos 10 by simp only [PS.must, if_neg hs]))
        clear hs hgd hR
        go_wp2_with (first
          | (go_at_call 56; refine HN.out.mono ?_; clear HN; rintro e w4 ⟨rfl, hb4⟩; have T4 := Lib.hid (T3.out.below hb4); have C4 := Lib.hid (C3.out.trans (chgB (S := Sg g lo) hb4) (fun _ _ h => h)); clear hb4)
          | (go_at_call 76; refine (HT.out _ T4.out).mono ?_; clear HT; rintro e w5 ⟨hC, rfl⟩))
        exact ⟨rfl, C4.out.trans hC (fun _ _ e => .inl e), rfl⟩
set_option maxRecDepth 100000 in
set_option maxHeartbeats 16000000 in
theorem decl_v (V : World) (lo tb g mb : Nat) (dv vv ov mv : Value) (mo : Obj) (t : LX.Tok) (u : List LX.Tok) (d v : List PS.Bs) (ht : t.text = PS.wVolatile) (h : Tp V lo (Pc.mk tb g dv vv ov mv mb mo) (t :: u) d v) (hR : PS.names d v u ≠ .out) :
    Calls Tryz.prog 57 #[.pointer (some ⟨g, 0, none⟩)] V (DRes V lo g (fun l r W => ∃ x, Tp W lo (Pc.mk tb g dv x ov mv mb mo) r d l) (PS.names d v u)) := by
  obtain ⟨R, hRR⟩ : ∃ R, PS.names d v u = R := ⟨_, rfl⟩
  rw [hRR] at hR ⊢
  have hgu := h.pat.good.tail (by rw [ht]; decide)
  have e1 : (t.text == PS.wDurable) = false := by rw [ht]; decide
  have H := Lib.hid h
  clear h ht
  obtain ⟨t2, u2, rfl⟩ := hgu.ne
  rw [names_v hgu] at hRR
  have HM := Lib.hid (take_any V (Pc.mk tb g dv vv ov mv mb mo) t (t2 :: u2) 0 H.out.pat hgu)
  have y2 : V.cell? ⟨g, 0, none⟩ = V.cell? ⟨g, 0, none⟩ := rfl
  obtain ⟨i0, hi0, hz0, hz1, hz2⟩ := info_parts infoS
  have HZ := Lib.hid (And.intro hi0 (And.intro hz0 (And.intro hz1 hz2)))
  clear hi0 hz0 hz1 hz2 y2 hgu
  go_enter Tryz.func57, Tryz.ntmps57
  go_wp2_with (first
    | (go_at_call 79; refine HM.out.mono ?_; clear HM; rintro e w2 ⟨rfl, hP, hC⟩; have T2 := Lib.hid (H.out.step hC hP); have C2 := Lib.hid (show Chg (Sg g lo) V w2 from hC.mono (fun _ _ e => .inl e)); clear hC hP))
  cases hx : declM d v (t2 :: u2) with
  | out => rw [hx] at hRR; exact absurd hRR.symm hR
  | err q c =>
    rw [hx] at hRR
    have hRR : PS.PR.err q c = R := hRR
    obtain rfl := hRR
    have HM := Lib.hid (fun (W : World) (hW : Tp W lo (Pc.mk tb g dv vv ov mv mb mo) (t2 :: u2) d v) => declared_at hW hx)
    have D2 := Lib.hid (T2.out.pat.cell23)
    obtain ⟨c2, c3⟩ := D2.out
    dsimp only at c2 c3
    clear hx hR
    refine region_dies2 10 15 99 5 [5, 6, 7, 8, 9] (15 + ·) (fun i => match i with | 0 => .val (.pointer (some ⟨g, 3, none⟩)) | 1 => .val (.pointer (some ⟨g, 3, none⟩)) | 2 => .val (.pointer (some ⟨g, 3, none⟩)) | 3 => .val vv | 4 => .val (.pointer (some ⟨g, 0, none⟩)) | _ => .val undef) (by kernel_rfl) rfl (by decide) (by decide) (by kernel_rfl) (by kernel_rfl) ?step ?dies
    case step =>
      intro listed a i hI hi hic hdep
      have hsl : ∀ i, i < 10 → 15 + i < 39 ∧ (15 ≤ 15 + i ∨ 15 + i = 99) := fun i hi => by omega
      have hij : ∀ i j : Nat, i < 10 → j < 10 → 15 + i = 15 + j → i = j := fun i j _ _ h => by omega
      have p2 : a.tmps[2]?.getD undef = .pointer (some ⟨g, 3, none⟩) := by rw [hI.low 2 (by decide) (by decide)]; rfl
      have p0 : a.tmps[0]?.getD undef = .pointer (some ⟨g, 0, none⟩) := by rw [hI.low 0 (by decide) (by decide)]; rfl
      have hcase : i = 0 ∨ i = 1 ∨ i = 2 ∨ i = 3 ∨ i = 4 := by simp at hic; omega
      rcases hcase with rfl | rfl | rfl | rfl | rfl
      · exact st_same hsl hij hI (by decide) rfl rfl rfl (by simp [execOp, go_sem, Act.eval, p2]) rfl
      · exact st_same hsl hij hI (by decide) rfl rfl rfl (by simp [execOp, go_sem, Act.eval, p2]) rfl
      · have e8 : a.tmps[16]?.getD undef = .pointer (some ⟨g, 3, none⟩) := hI.ok 1 (by decide) (hdep _ rfl ⟨1, .data⟩ (by simp) rfl)
        exact st_same hsl hij hI (by decide) rfl rfl rfl (by simp [execOp, go_sem, Act.eval, e8]) rfl
      · have e8 : a.tmps[17]?.getD undef = .pointer (some ⟨g, 3, none⟩) := hI.ok 2 (by decide) (hdep _ rfl ⟨2, .data⟩ (by simp) rfl)
        exact st_same hsl hij hI (by decide) rfl rfl rfl (by simp [execOp, go_sem, Act.eval, e8, c3]) rfl
      · exact st_same hsl hij hI (by decide) rfl rfl rfl (by simp [execOp, go_sem, Act.eval, p0]) rfl
    case dies =>
      intro listed a hI hdep
      have e10 : a.tmps[19]?.getD undef = .pointer (some ⟨g, 0, none⟩) := hI.ok 4 (by decide) (hdep _ rfl ⟨4, .data⟩ (by simp) rfl)
      have hdf := hI.defers
      refine st_dies rfl rfl (f := 81) (args := #[.pointer (some ⟨g, 0, none⟩)]) (by simp [execOp, go_sem, Act.eval, e10]) ((HM.out _ T2.out.drew).mono (fun e w' h => ⟨h.2, h.1⟩)) (fun w' hz => ?_)
      exact ⟨hdf, C2.out.drew.trans hz (fun _ _ e => .inl e), rfl⟩
  | ok s r' =>
    rw [hx] at hRR
    have HRR := Lib.hid (show nameL d (v ++ [s]) r' = R from hRR)
    clear hRR H
    go_cut [2] from 3 (fun s2 W => s2 = .pointer (some ⟨g, 3, none⟩) ∧ ∃ x, Hid (Tp W lo (Pc.mk tb g dv x ov mv mb mo) r' d (v ++ [s])) ∧ Hid (Chg (Sg g lo) V W))
    case first =>
      have HM := Lib.hid (fun (W : World) (hW : Tp W lo (Pc.mk tb g dv vv ov mv mb mo) (t2 :: u2) d v) => declared_at hW hx)
      have hfew := declM_few hx T2.out.few
      have hlg : g < lo := T2.out.g
      obtain ⟨Ad, cd, ed, _⟩ := T2.out.vol.form
      dsimp only at ed
      subst ed
      have y2 : w2.cell? ⟨g, 3, none⟩ = some (.slice Ad v.length cd) := T2.out.pat.cell23.2
      clear hx
      go_region_law
        (first
          | (go_simp; go_at_call 81; refine (HM.out _ T2.out.drew).mono ?_; clear HM; rintro e w5 ⟨hC, rfl, hP⟩
             have T5 := Lib.hid (T2.out.drew.step hC hP)
             have C5 := Lib.hid (show Chg (Sg g lo) w2 w5 from ((Chg.refl (Sg g lo) w2).drew.trans hC (fun _ _ h => .inl h)))
             have z5 : lo ≤ w5.heap.size := T5.out.big
             have e5 : w5.cell? ⟨g, 3, none⟩ = some (.slice Ad v.length cd) := T5.out.pat.cell23.2
             have d5 : (w5.alloc (.cells #[.string (PS.bs s)] 9)).cell? ⟨g, 3, none⟩ = some (.slice Ad v.length cd) := (((Below.refl w5.heap.size w5).alloc (Nat.le_refl _) _).cell (p := ⟨g, 3, none⟩) T5.out.pat.lt).trans e5
             have HO5 := Lib.hid (T5.out.vol.alloc (.cells #[.string (PS.bs s)] 9))
             clear hC hP)
          | (refine step_append_lies _ rfl (.tmp 18) (.tmp 21) 23 rfl lo 9 i0 _ 1 16 Tryz.underlying23 HZ.out.1 HZ.out.2.1 HZ.out.2.2.1 HZ.out.2.2.2 rfl (by decide) (.slice Ad v.length cd) v.length _ (by simp [Act.eval]) HO5.out ⟨w5.heap.size, 0, none⟩ 1 1 [.string (PS.bs s)] (by simp [Act.eval]) rfl (news_alloc _ _ _ _ rfl) (by simp [Value.oneCell']) (by decide) (by simp only [maxLen]; omega) (by omega) (by first | (simp; done) | (simp; omega)) _ rfl ?_; intro g4 c4 w6 hown4 hgrow4 hat4 _; obtain ⟨d6, f6⟩ := T5.out.kept_v (W' := w6) hgrow4 T5.out.vol.lt; have hat5 : (Value.slice Ad v.length cd).ownBlock = some g4 ∨ w5.heap.size ≤ g4 := hat4.imp id (fun h => by rw [h, World.size_alloc]; omega); dsimp only at d6 f6))
      all_goals
        obtain ⟨U, hU⟩ : ∃ U, w6.setCell ⟨g, 3, none⟩ (.slice (some ⟨g4, 0, none⟩) (v.length + 1) c4) = U := ⟨_, rfl⟩
        have hm := T5.out.more_v (s := s) rfl hgrow4 hat5 hown4 rfl hfew hU
        have HU := Lib.hid hU
        have TU := Lib.hid hm.1
        have CU := Lib.hid (C2.out.trans (C5.out.trans hm.2 (fun _ _ h => h)) (fun _ _ h => h))
        clear hm hU
        go_wp2_with fail
        rw [HU.out]
        go_meet
        exact ⟨rfl, _, TU.out, CU.out⟩
    case rest =>
    obtain ⟨rfl, x0, T0, C0⟩ := hcut
    clear T2 C2 hx
    go_wp2_with fail
    go_loopw [24] (fun _ W => ∃ (own : List PS.Bs) (r : List LX.Tok) (x : Value), Hid (nameL d own r = R) ∧ Hid (Tp W lo (Pc.mk tb g dv x ov mv mb mo) r d own) ∧ Hid (Chg (Sg g lo) V W)) (fun _ W => restLen W g)
    case atStart => exact ⟨_, _, x0, HRR.out, T0.out, C0.out⟩
    case round =>
    obtain ⟨own, r, x, hE, T3, C3⟩ := hrel
    clear HRR T0 C0
    obtain ⟨c, w, rfl⟩ := T3.out.pat.good.ne
    have hgd := T3.out.pat.good
    have hE : nameL d own (c :: w) = R := hE.out
    have HN := Lib.hid (sees_any wr (Pc.mk tb g dv x ov mv mb mo) c w 0 PS.yComma T3.out.pat)
    have RW := Lib.hid (show restLen wr g = (c :: w).length from T3.out.pat.rest)
    by_cases hc : c.text = PS.yComma
    · have hb : (c.text == PS.yComma) = true := by rw [beq_iff_eq]; exact hc
      have hgw := hgd.tail (by rw [hc]; decide)
      simp only [nameL, if_pos hc] at hE
      rw [hb] at HN
      clear hc hb hgd
      obtain ⟨t2, u2, rfl⟩ := hgw.ne
      rw [names_v hgw] at hE
      have HT := Lib.hid (fun (W : World) (hW : Tp W lo (Pc.mk tb g dv x ov mv mb mo) (c :: t2 :: u2) d own) => take_any W (Pc.mk tb g dv x ov mv mb mo) c (t2 :: u2) 0 hW.pat hgw)
      clear hgw
      go_wp2_with (first
        | (go_at_call 56; refine HN.out.mono ?_; clear HN; rintro e w4 ⟨rfl, hb4⟩; have T4 := Lib.hid (T3.out.below hb4); have C4 := Lib.hid (C3.out.trans (chgB (S := Sg g lo) hb4) (fun _ _ h => h)); clear hb4)
        | (go_at_call 79; refine (HT.out _ T4.out).mono ?_; clear HT; rintro e w2 ⟨rfl, hP, hC⟩; have T2 := Lib.hid (T4.out.step hC hP); have C2 := Lib.hid (show Chg (Sg g lo) V w2 from C4.out.trans hC (fun _ _ e => .inl e)); clear hC hP))
      clear T3 C3 T4 C4
      cases hx : declM d own (t2 :: u2) with
      | out => rw [hx] at hE; exact absurd hE.symm hR
      | err q c =>
        rw [hx] at hE
        have hE : PS.PR.err q c = R := hE
        obtain rfl := hE
        have HM := Lib.hid (fun (W : World) (hW : Tp W lo (Pc.mk tb g dv x ov mv mb mo) (t2 :: u2) d own) => declared_at hW hx)
        have D2 := Lib.hid (T2.out.pat.cell23)
        obtain ⟨c2, c3⟩ := D2.out
        dsimp only at c2 c3
        clear hx hR
        refine region_dies2 10 28 99 5 [5, 6, 7, 8, 9] (28 + ·) (fun i => match i with | 0 => .val (.pointer (some ⟨g, 3, none⟩)) | 1 => .val (.pointer (some ⟨g, 3, none⟩)) | 2 => .val (.pointer (some ⟨g, 3, none⟩)) | 3 => .val x | 4 => .val (.pointer (some ⟨g, 0, none⟩)) | _ => .val undef) (by kernel_rfl) rfl (by decide) (by decide) (by kernel_rfl) (by kernel_rfl) ?step ?dies
        case step =>
          intro listed a i hI hi hic hdep
          have hsl : ∀ i, i < 10 → 28 + i < 39 ∧ (28 ≤ 28 + i ∨ 28 + i = 99) := fun i hi => by omega
          have hij : ∀ i j : Nat, i < 10 → j < 10 → 28 + i = 28 + j → i = j := fun i j _ _ h => by omega
          have p2 : a.tmps[2]?.getD undef = .pointer (some ⟨g, 3, none⟩) := by rw [hI.low 2 (by decide) (by decide)]; rfl
          have p0 : a.tmps[0]?.getD undef = .pointer (some ⟨g, 0, none⟩) := by rw [hI.low 0 (by decide) (by decide)]; rfl
          have hcase : i = 0 ∨ i = 1 ∨ i = 2 ∨ i = 3 ∨ i = 4 := by simp at hic; omega
          rcases hcase with rfl | rfl | rfl | rfl | rfl
          · exact st_same hsl hij hI (by decide) rfl rfl rfl (by simp [execOp, go_sem, Act.eval, p2]) rfl
          · exact st_same hsl hij hI (by decide) rfl rfl rfl (by simp [execOp, go_sem, Act.eval, p2]) rfl
          · have e8 : a.tmps[29]?.getD undef = .pointer (some ⟨g, 3, none⟩) := hI.ok 1 (by decide) (hdep _ rfl ⟨1, .data⟩ (by simp) rfl)
            exact st_same hsl hij hI (by decide) rfl rfl rfl (by simp [execOp, go_sem, Act.eval, e8]) rfl
          · have e8 : a.tmps[30]?.getD undef = .pointer (some ⟨g, 3, none⟩) := hI.ok 2 (by decide) (hdep _ rfl ⟨2, .data⟩ (by simp) rfl)
            exact st_same hsl hij hI (by decide) rfl rfl rfl (by simp [execOp, go_sem, Act.eval, e8, c3]) rfl
          · exact st_same hsl hij hI (by decide) rfl rfl rfl (by simp [execOp, go_sem, Act.eval, p0]) rfl
        case dies =>
          intro listed a hI hdep
          have e10 : a.tmps[32]?.getD undef = .pointer (some ⟨g, 0, none⟩) := hI.ok 4 (by decide) (hdep _ rfl ⟨4, .data⟩ (by simp) rfl)
          have hdf := hI.defers
          refine st_dies rfl rfl (f := 81) (args := #[.pointer (some ⟨g, 0, none⟩)]) (by simp [execOp, go_sem, Act.eval, e10]) ((HM.out _ T2.out.drew).mono (fun e w' h => ⟨h.2, h.1⟩)) (fun w' hz => ?_)
          exact ⟨hdf, C2.out.drew.trans hz (fun _ _ e => .inl e), rfl⟩
      | ok s r' =>
        rw [hx] at hE
        have HE := Lib.hid (show nameL d (own ++ [s]) r' = R from hE)
        have hlen := declM_len hx
        clear hE
        have HM := Lib.hid (fun (W : World) (hW : Tp W lo (Pc.mk tb g dv x ov mv mb mo) (t2 :: u2) d own) => declared_at hW hx)
        have hfew := declM_few hx T2.out.few
        have hlg : g < lo := T2.out.g
        obtain ⟨Ad, cd, ed, _⟩ := T2.out.vol.form
        dsimp only at ed
        subst ed
        have y2 : w2.cell? ⟨g, 3, none⟩ = some (.slice Ad own.length cd) := T2.out.pat.cell23.2
        clear hx
        go_region_law
          (first
            | (go_simp; go_at_call 81; refine (HM.out _ T2.out.drew).mono ?_; clear HM; rintro e w5 ⟨hC, rfl, hP⟩
               have T5 := Lib.hid (T2.out.drew.step hC hP)
               have C5 := Lib.hid (show Chg (Sg g lo) w2 w5 from ((Chg.refl (Sg g lo) w2).drew.trans hC (fun _ _ h => .inl h)))
               have z5 : lo ≤ w5.heap.size := T5.out.big
               have e5 : w5.cell? ⟨g, 3, none⟩ = some (.slice Ad own.length cd) := T5.out.pat.cell23.2
               have d5 : (w5.alloc (.cells #[.string (PS.bs s)] 9)).cell? ⟨g, 3, none⟩ = some (.slice Ad own.length cd) := (((Below.refl w5.heap.size w5).alloc (Nat.le_refl _) _).cell (p := ⟨g, 3, none⟩) T5.out.pat.lt).trans e5
               have HO5 := Lib.hid (T5.out.vol.alloc (.cells #[.string (PS.bs s)] 9))
               clear hC hP)
            | (refine step_append_lies _ rfl (.tmp 31) (.tmp 34) 23 rfl lo 9 i0 _ 1 16 Tryz.underlying23 HZ.out.1 HZ.out.2.1 HZ.out.2.2.1 HZ.out.2.2.2 rfl (by decide) (.slice Ad own.length cd) own.length _ (by simp [Act.eval]) HO5.out ⟨w5.heap.size, 0, none⟩ 1 1 [.string (PS.bs s)] (by simp [Act.eval]) rfl (news_alloc _ _ _ _ rfl) (by simp [Value.oneCell']) (by decide) (by simp only [maxLen]; omega) (by omega) (by first | (simp; done) | (simp; omega)) _ rfl ?_; intro g4 c4 w6 hown4 hgrow4 hat4 _; obtain ⟨d6, f6⟩ := T5.out.kept_v (W' := w6) hgrow4 T5.out.vol.lt; have hat5 : (Value.slice Ad own.length cd).ownBlock = some g4 ∨ w5.heap.size ≤ g4 := hat4.imp id (fun h => by rw [h, World.size_alloc]; omega); dsimp only at d6 f6))
        all_goals
          obtain ⟨U, hU⟩ : ∃ U, w6.setCell ⟨g, 3, none⟩ (.slice (some ⟨g4, 0, none⟩) (own.length + 1) c4) = U := ⟨_, rfl⟩
          have hm := T5.out.more_v (s := s) rfl hgrow4 hat5 hown4 rfl hfew hU
          have HU := Lib.hid hU
          have TU := Lib.hid hm.1
          have CU := Lib.hid (C2.out.trans (C5.out.trans hm.2 (fun _ _ h => h)) (fun _ _ h => h))
          clear hm hU
          go_wp2_with fail
          rw [HU.out]
          refine ⟨⟨_, _, _, HE.out, TU.out, CU.out⟩, ?_⟩
          rw [RW.out, show restLen U g = r'.length from TU.out.pat.rest, List.length_cons, List.length_cons]
          omega
    · have hb : (c.text == PS.yComma) = false := by rw [beq_eq_false_iff_ne]; exact hc
      simp only [nameL, if_neg hc] at hE
      rw [hb] at HN
      clear hc hb
      by_cases hs : c.text = PS.ySemi
      · rw [if_pos hs] at hE
        obtain rfl := hE
        have HT := Lib.hid (fun (W : World) (hW : Tp W lo (Pc.mk tb g dv x ov mv mb mo) (c :: w) d own) => must_at hW.pat (by decide) (show PS.must PS.ySemi (c :: w) = .ok () w by simp only [PS.must, if_pos hs]))
        clear hs hgd hR
        go_wp2_with (first
          | (go_at_call 56; refine HN.out.mono ?_; clear HN; rintro e w4 ⟨rfl, hb4⟩; have T4 := Lib.hid (T3.out.below hb4); have C4 := Lib.hid (C3.out.trans (chgB (S := Sg g lo) hb4) (fun _ _ h => h)); clear hb4)
          | (go_at_call 76; refine (HT.out _ T4.out).mono ?_; clear HT; rintro e w5 ⟨hC, rfl, hP⟩))
        go_end0
        exact ⟨C4.out.trans hC (fun _ _ e => .inl e), rfl, x, T4.out.step hC hP⟩
      · rw [if_neg hs] at hE
        obtain rfl := hE
        have HT := Lib.hid (fun (W : World) (hW : Tp W lo (Pc.mk tb g dv x ov mv mb mo) (c :: w) d own) => must_at hW.pat (by decide) (show PS.must PS.ySemi (c :: w) = .err c.pos 10 by simp only [PS.must, if_neg hs]))
        clear hs hgd hR
        go_wp2_with (first
          | (go_at_call 56; refine HN.out.mono ?_; clear HN; rintro e w4 ⟨rfl, hb4⟩; have T4 := Lib.hid (T3.out.below hb4); have C4 := Lib.hid (C3.out.trans (chgB (S := Sg g lo) hb4) (fun _ _ h => h)); clear hb4)
          | (go_at_call 76; refine (HT.out _ T4.out).mono ?_; clear HT; rintro e w5 ⟨hC, rfl⟩))
        exact ⟨rfl, C4.out.trans hC (fun _ _ e => .inl e), rfl⟩
end Go.Proofs.YtlfpaemfhanpiaaGreatDoor
