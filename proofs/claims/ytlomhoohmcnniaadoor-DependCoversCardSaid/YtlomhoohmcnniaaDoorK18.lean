/-
  The contract of Covers. Condition: an order of at most 14 elements.
  The contract of depend.Order. Condition: the run lies in memory, and has at most 14 steps; the library's table lies as it lay.
-/
import Derived.Test.YtlomhoohmcnniaaDoorK17
import Derived.BigRegionIn
import Derived.ArgAppend
import Derived.Test.YtlomhoohmcnniaaDoorK20

namespace Go.Proofs.YtlomhoohmcnniaaDoor
open Go Go.RowKit Go.Proofs Go.Shelf
attribute [local go_sem] Oper.semAt_some

/-- Pairs as cells. -/
def pc (E : List (Nat × Nat)) : List Value := E.flatMap fun p => [nv p.1, nv p.2]
theorem pc_snoc (E : List (Nat × Nat)) (p : Nat × Nat) : pc (E ++ [p]) = pc E ++ [nv p.1, nv p.2] := by simp [pc]
theorem pc_len (E : List (Nat × Nat)) : (pc E).length = E.length * 2 := by
  unfold pc
  induction E with
  | nil => rfl
  | cons a t ih => rw [List.flatMap_cons, List.length_append, ih]; simp; omega
/-- v is a slice of the call's own that holds the pairs E. -/
def OwnP (W : World) (lo : Nat) (v : Value) (E : List (Nat × Nat)) : Prop := W.ownsRow lo 42 2 v E.length (pc E)
/-- What holds between two rounds of the loop over an element's covers. -/
structure CvR (w : World) (bc hm : Nat) (Ds : List Nat) (E : List (Nat × Nat)) (V : World) : Prop where
  row : ∃ v, Boxed V bc 40 v ∧ OwnP V w.heap.size v E
  chg : Chg (· = bc) w V
  mks : Mks V w.heap.size hm Ds
theorem info_pr : (Tryd.prog.info? 42).map (fun i => (i.zero, i.size, i.bytes)) = some (some (.agg #[.int .i64 0, .int .i64 0]), 2, 16) := by kernel_rfl
theorem zero_pr : (Tryd.prog.info? 42).map (fun i => (i.zero, i.size)) = some (some (.agg #[.int .i64 0, .int .i64 0]), 2) := by kernel_rfl
theorem zero_pr_run : ∀ w, (zeroValue 42).run Tryd.prog w = .ok (.agg #[.int .i64 0, .int .i64 0]) w := (zero_of_info zero_pr).1
theorem ownP_own {X Y : World} {lo : Nat} {v : Value} {E : List (Nat × Nat)} {row : Option Nat} (h : OwnP X lo v E) (hg : X.grownBy Y row) (hr : ∀ r, row = some r → ∃ o : Obj, X.heap[r]? = some o ∧ o.isCells = false) : OwnP Y lo v E := by
  refine ⟨h.1, ?_⟩
  rcases h.2 with h0 | ⟨g, cap, cur, rfl, h1, h2, h3⟩
  · exact .inl h0
  · exact .inr ⟨g, cap, cur, rfl, h1, block_own h2 hg hr, h3⟩
theorem ownP_low {W : World} {b0 b1 : Nat} {v : Value} {E : List (Nat × Nat)} (h : OwnP W b1 v E) (hb : b0 ≤ b1) : OwnP W b0 v E := by
  refine ⟨h.1, ?_⟩
  rcases h.2 with h0 | ⟨g, cap, cur, rfl, h1, h2⟩
  · exact .inl h0
  · exact .inr ⟨g, cap, cur, rfl, Nat.le_trans hb h1, h2⟩
theorem CvR.own {w X Y : World} {bc hm D : Nat} {Ds : List Nat} {E : List (Nat × Nat)} {row : Option Nat} (h : CvR w bc hm Ds E X) (hm1 : hm ≤ D) (hD : w.heap.size ≤ D) (hg : X.grownBy Y row) (hr : ∀ r, row = some r → D ≤ r ∧ ∃ o : Obj, X.heap[r]? = some o ∧ o.isCells = false) : CvR w bc hm Ds E Y := by
  obtain ⟨v, h1, h2⟩ := h.row
  exact ⟨⟨v, block_own h1 hg fun r e => (hr r e).2, ownP_own h2 hg fun r e => (hr r e).2⟩, h.chg.own hD hg fun r e => (hr r e).1, h.mks.own hm1 hg hr⟩
theorem CvR.new {w V V' : World} {bc hm : Nat} {Ds : List Nat} {E : List (Nat × Nat)} (h : CvR w bc hm Ds E V) (hh : hm ≤ V.heap.size) (hb : Below V.heap.size V V') : CvR w bc hm Ds E V' := by
  obtain ⟨v, h1, h2⟩ := h.row
  exact ⟨⟨v, (hb.block _ h1.lt).trans h1, own_of_block h2 fun b hvb => hb.block b (World.ownsRow.lt h2 b hvb).2⟩, h.chg.new hb, h.mks.below (hb.mono hh)⟩
theorem ownP_form {W : World} {lo : Nat} {v : Value} {E : List (Nat × Nat)} (h : OwnP W lo v E) : ∃ A c, v = .slice A E.length c := by
  rcases h.2 with ⟨rfl, h0⟩ | ⟨g, cap, cur, rfl, _⟩
  · exact ⟨none, 0, by rw [h0]⟩
  · exact ⟨_, cap, rfl⟩
theorem bc_ne {W : World} {b : Nat} {v : Value} {C : Array Value} (h : Boxed W b 40 v) (h' : W.heap[b]? = some (.cells C 3 (0, 0))) : False := heapT_ne h h' (by decide) rfl
/-- The covers of the first k elements. -/
def covTo (R : List Nat) (k : Nat) : List (Nat × Nat) := (List.range k).flatMap fun a => ((List.range R.length).filter (PO.covB R a)).map fun b => (a, b)
theorem covTo_succ (R : List Nat) (k : Nat) : covTo R (k + 1) = covTo R k ++ ((List.range R.length).filter (PO.covB R k)).map fun b => (k, b) := by
  unfold covTo
  rw [List.range_succ, List.flatMap_append]
  simp
theorem covTo_len (R : List Nat) (k : Nat) : (covTo R k).length ≤ k * R.length := by
  induction k with
  | zero => simp [covTo]
  | succ k ih =>
    rw [covTo_succ, List.length_append, List.length_map]
    have := List.length_filter_le (PO.covB R k) (List.range R.length)
    rw [List.length_range] at this
    rw [Nat.succ_mul]
    omega
theorem ownsRow_low {w : World} {b0 b1 : Nat} {e : TypeId} {size : Nat} {v : Value} {n : Nat} {xs : List Value} (h : w.ownsRow b1 e size v n xs) (hb : b0 ≤ b1) : w.ownsRow b0 e size v n xs := by
  refine ⟨h.1, ?_⟩
  rcases h.2 with h0 | ⟨g, cap, cur, rfl, h1, h2⟩
  · exact .inl h0
  · exact .inr ⟨g, cap, cur, rfl, Nat.le_trans hb h1, h2⟩
/-- A round's append and store. -/
theorem cv_step {w1 X w7 : World} {bc ba a x hm : Nat} {Ds : List Nat} {E : List (Nat × Nat)} {v v' : Value} {o : Obj} (hJ : CvR w1 bc hm Ds E X) (hrow : OwnP X w1.heap.size v E) (hbx : Boxed X ba 3 (.int .i64 (a : Int))) (hbv : Boxed X bc 40 v)
    (hown : w7.ownsRow w1.heap.size 42 2 v' (E.length + 1) (pc E ++ [nv a, nv x])) (hg : (X.alloc o).grownBy w7 v.ownBlock) (hbc : bc < w1.heap.size) :
    CvR w1 bc hm Ds (E ++ [(a, x)]) (w7.setCell ⟨bc, 0, none⟩ v') ∧ Boxed (w7.setCell ⟨bc, 0, none⟩ v') ba 3 (.int .i64 (a : Int)) ∧ X.heap.size ≤ (w7.setCell ⟨bc, 0, none⟩ v').heap.size ∧ ∀ k, k < bc → k < X.heap.size → (w7.setCell ⟨bc, 0, none⟩ v').heap[k]? = X.heap[k]? := by
  have hXs := hJ.chg.size
  have hs := hg.size
  rw [World.size_alloc] at hs
  have hlow : ∀ b, v.ownBlock = some b → w1.heap.size ≤ b := fun b hb => (World.ownsRow.lt hrow b hb).1
  have hkind : ∀ b, v.ownBlock = some b → ∃ C, X.heap[b]? = some (.cells C 42 (0, 0)) := fun b hb => by
    rcases hrow.2 with ⟨e, _⟩ | ⟨g, cap, cur, e, _, h2, _⟩
    · rw [e] at hb; cases hb
    · rw [e] at hb
      have e2 : some g = some b := hb
      injection e2 with e2
      exact ⟨cur, e2 ▸ h2⟩
  have keep : ∀ b, b < X.heap.size → v.ownBlock ≠ some b → w7.heap[b]? = X.heap[b]? := fun b hb hne => (hg.block b (by simp; omega) (Ne.symm hne)).trans (Below.heap_alloc X o b hb)
  have hba : ba ≠ bc := heapT_ne hbx hbv (by decide)
  have hv7 : Boxed w7 bc 40 v := (keep bc hbv.lt (fun e => by have := hlow _ e; omega)).trans hbv
  refine ⟨⟨⟨v', hv7.set _, ?_⟩, ?_, ?_⟩, ?_, ?_, ?_⟩
  · unfold OwnP
    rw [List.length_append, List.length_singleton, pc_snoc]
    refine own_of_block hown fun b hb => Below.heap_setCell w7 ⟨bc, 0, none⟩ _ b ?_
    rintro rfl
    rcases hown.2 with ⟨e, _⟩ | ⟨g, cap, cur, e, _, h2, _⟩
    · rw [e] at hb; cases hb
    · rw [e] at hb
      have e2 : some g = some _ := hb
      injection e2 with e2
      subst e2
      exact heapT_ne hv7 h2 (by decide) rfl
  · exact ((hJ.chg.alloc o).grown hg (fun k e hk => by have := hlow k e; omega)).setCell (p := ⟨bc, 0, none⟩) (fun _ => rfl) _
  · have h7 : Mks w7 w1.heap.size hm Ds := hJ.mks.keep fun b hb _ => keep b (Array.getElem?_eq_some_iff.1 hb).1 (fun e => by
      obtain ⟨C, h⟩ := hkind b e
      rw [h] at hb
      cases hb)
    exact h7.setCell (p := ⟨bc, 0, none⟩) hv7 _
  · refine box_set ?_ hba
    exact (keep ba hbx.lt (fun e => by
      obtain ⟨C, h⟩ := hkind ba e
      exact heapT_ne hbx h (by decide) rfl)).trans hbx
  · unfold World.setCell
    rw [Array.size_modify]
    omega
  · intro k h1 h2
    rw [Below.heap_setCell w7 ⟨bc, 0, none⟩ _ k (show k ≠ bc by omega)]
    exact keep k h2 (fun e => by have := hlow k e; omega)
theorem cover_lt {R : List Nat} {n : Nat} {s : Nat} (h : s < 2 ^ n) (P : List Nat) : PO.cover R s P < 2 ^ n := by
  unfold PO.cover
  induction P generalizing s with
  | nil => exact h
  | cons b t ih =>
    rw [List.foldl_cons]
    apply ih
    split
    · exact Nat.xor_lt_two_pow h (Nat.lt_of_le_of_lt Nat.and_le_left h)
    · exact h
set_option maxRecDepth 100000 in
set_option maxHeartbeats 8000000 in
theorem covers_in (N : Nat) (hN : 6 ≤ N) {w : World} {hi p n : Nat} {R : List Nat} (h : Od w hi p R) (hRn : R.length = n) (hn : n ≤ 14) (hc : PO.Cl R) (hT : Tab w) (hlo : hi ≤ w.heap.size) :
    CallsIn Fence.wide N Tryd.prog 26 #[.pointer (some ⟨p, 0, none⟩)] w fun e w' => ∃ v, e = .returned v ∧ OwnP w' w.heap.size v (PO.covs R) ∧ Below w.heap.size w w' := by
  have h1 : 1 ≤ N := by omega
  have hzv := zero_pr_run
  have hs := hc.small
  have htl := hT.lt
  obtain ⟨i0, hi0, hz0, hz1, hz2⟩ := info_parts info_pr
  have hb0 := (Below.refl w.heap.size w).alloc (Nat.le_refl _) (.cells #[.slice none 0 0] 40)
  have hod0 := (h.more hlo).below hb0
  have HLIN := Lib.hid (linear_any hod0 (by omega) hs (hT.below htl hb0) (by simp))
  have hbx0 := Boxed.new w 40 (.slice none 0 0)
  have HOD := Lib.hid (h.more hlo)
  have HT := Lib.hid hT
  clear h hT hod0
  refine callsIn_np Tryd.func26 rfl trivial ?_ rfl
  simp only [Tryd.ntmps26, List.size_toArray, List.length_cons, List.length_nil, Nat.reduceAdd, Nat.reduceSub, Array.replicate_succ, Array.replicate_zero, List.push_toArray, List.append_toArray, List.nil_append, List.cons_append]
  gi_wp2_with (first
    | ((first | refine ⟨trivial, fun _ => by omega, ?_⟩ | refine ⟨trivial, ?_⟩)
       gi_at_call 42
       refine (callsIn_wide.2 HLIN.out).mono ?_
       rintro e w1 ⟨v, rfl, ho1, hb1⟩
       obtain ⟨lA, lc, rfl, _, _⟩ := ho1.slice
       have hbel := hb0.trans (hb1.mono (by simp))
       have hlen := len_any (HOD.out.below hbel)
       rw [hRn] at hlen
       have HLEN := Lib.hid hlen
       have HBX1 := Lib.hid (show Boxed w1 w.heap.size 40 (.slice none 0 0) from (hb1.block _ (by simp)).trans hbx0)
       have HO1 := Lib.hid ho1
       have HB1 := Lib.hid hbel
       have hs1 : w.heap.size + 1 ≤ w1.heap.size := by have := hb1.size; simp at this; exact this
       clear ho1 hb1 hbel hlen HLIN)
    | ((first | refine ⟨trivial, fun _ => by omega, ?_⟩ | refine ⟨trivial, ?_⟩)
       gi_at_call 14
       refine (callsIn_wide.2 HLEN.out).mono ?_
       rintro e w' ⟨rfl, rfl⟩))
  obtain ⟨L, hL⟩ : ∃ L, topoL (PO.rows R) = L := ⟨_, rfl⟩
  have hLl : L.length = n := by rw [← hL, hc.topo, hRn]
  have hLm : ∀ x, x < R.length → x ∈ L := by
    obtain ⟨_, h2, h3, _⟩ := PO.topoL_fore (PO.rows R)
    rw [PO.rows_len, hL] at h3
    rw [hL] at h2
    exact fun x hx => PO.whole_mem (by omega) h2 h3 hx
  have hLn : ∀ x ∈ L, x < n := by
    obtain ⟨_, _, h3, _⟩ := PO.topoL_fore (PO.rows R)
    rw [PO.rows_len, hL, hRn] at h3
    exact h3
  rw [hL] at HO1 ⊢
  have HBX0 := Lib.hid HBX1.out
  have hJ0 : CvR w1 w.heap.size w1.heap.size [] (covTo R 0) w1 := ⟨⟨_, HBX1.out, rfl, .inl ⟨rfl, rfl⟩⟩, Chg.refl _ _, Mks.nil _ _ _⟩
  have HJ0 := Lib.hid hJ0
  have HLM := Lib.hid hLm
  have HLN := Lib.hid hLn
  have HC := Lib.hid hc
  have HLL := Lib.hid hLl
  clear hJ0 hLm hLn hL HBX1 hc hLl
  refine wpIn_loop (fun a' V => ∃ (kk hm : Nat) (Ds : List Nat) (u5 u6 u7 u8 u9 u15 u16 u17 u18 u19 u20 u21 u22 u23 u24 u25 u26 u27 u28 u29 u30 u31 u32 u33 u34 u35 u36 u37 u38 u39 u40 u41 u42 u43 u44 u45 u46 u47 u48 u49 u50 u51 u52 u53 : Value), a' = { tmps := #[.pointer (some ⟨p, 0, none⟩), undef, .slice none 0 0, .pointer (some ⟨w.heap.size, 0, none⟩), .slice lA L.length lc, u5, u6, u7, u8, u9, .pointer (some ⟨p, 0, none⟩), .slice lA L.length lc, .pointer (some ⟨p, 0, none⟩), .int .i64 n, .int .i64 (kk : Int), u15, u16, u17, u18, u19, u20, u21, u22, u23, u24, u25, u26, u27, u28, u29, u30, u31, u32, u33, u34, u35, u36, u37, u38, u39, u40, u41, u42, u43, u44, u45, u46, u47, u48, u49, u50, u51, u52, u53, undef], defers := Ds.map mkD } ∧ kk ≤ n ∧ hm ≤ V.heap.size ∧ CvR w1 w.heap.size hm Ds (covTo R kk) V) (fun a' _ => n - (intOf (a'.tmps.getD 14 undef)).toNat) ?_ ?_
  · exact ⟨0, _, [], _, _, _, _, _, _, _, _, _, _, _, _, _, _, _, _, _, _, _, _, _, _, _, _, _, _, _, _, _, _, _, _, _, _, _, _, _, _, _, _, _, _, _, _, rfl, Nat.zero_le _, Nat.le_refl _, HJ0.out⟩
  rintro a' V ⟨kk, hm, Ds, u5, u6, u7, u8, u9, u15, u16, u17, u18, u19, u20, u21, u22, u23, u24, u25, u26, u27, u28, u29, u30, u31, u32, u33, u34, u35, u36, u37, u38, u39, u40, u41, u42, u43, u44, u45, u46, u47, u48, u49, u50, u51, u52, u53, rfl, hkk, hhm, hJ⟩
  by_cases hlt : kk < n
  · have hbV : Below w.heap.size w V := HB1.out.trans (hJ.chg.below (B := w.heap.size) (fun b _ e => by omega) (by omega))
    have hVs := hJ.chg.size
    have hodV := HOD.out.below hbV
    obtain ⟨ga, ws, hc0, hab⟩ := hodV.cell
    rw [hRn] at hc0
    obtain ⟨g, _, hcg, hsg, hgh⟩ := hab.at_ (i := kk) (by omega)
    have hpl := hodV.1
    have hgal := hab.gin
    obtain ⟨V1, hV1⟩ : ∃ V1, V.alloc (.cells #[.int .i64 (kk : Int)] 3) = V1 := ⟨_, rfl⟩
    have hb1 : Below V.heap.size V V1 := by rw [← hV1]; exact (Below.refl _ _).alloc (Nat.le_refl _) _
    have hsz1 : V1.heap.size = V.heap.size + 1 := by rw [← hV1]; simp
    have hbox1 : Boxed V1 V.heap.size 3 (.int .i64 (kk : Int)) := by rw [← hV1]; exact Boxed.new V _ _
    have d0 := (hb1.cell (p := ⟨p, 0, none⟩) (by show p < _; omega)).trans hc0
    have d1 := (hb1.cell (p := ⟨ga, kk, none⟩) (by show ga < _; omega)).trans hcg
    have d2 := hbox1.cell
    have hsg1 : Sw V1 1 g (PO.rw_ R kk) := hsg.keep (hb1.block _ (by omega))
    have HCL := Lib.hid (clone_any g (PO.rw_ R kk) V1.drew (hsg1.keep rfl))
    have HJ := Lib.hid hJ
    have HBX := Lib.hid hbox1
    have HBV := Lib.hid hbV
    have HB11 := Lib.hid hb1
    have HV1 := Lib.hid hV1
    have HAB := Lib.hid hab
    clear hJ hsg hsg1 hbox1 hb1 hodV hbV hV1 hab hcg hc0 HJ0
    gi_wp2
    rw [HV1.out]
    gi_wp2
    refine cut_norm (fun a' W => ∃ g' c', a' = { tmps := #[.pointer (some ⟨p, 0, none⟩), undef, .slice none 0 0, .pointer (some ⟨w.heap.size, 0, none⟩), .slice lA L.length lc, .pointer (some ⟨V.heap.size, 0, none⟩), .slice (some ⟨g', 0, none⟩) 1 c', u7, u8, u9, .pointer (some ⟨p, 0, none⟩), .slice lA L.length lc, .pointer (some ⟨p, 0, none⟩), .int .i64 n, .int .i64 (kk : Int), .bool true, .int .i64 (kk : Int), .pointer (some ⟨p, 0, none⟩), .pointer (some ⟨p, 0, none⟩), .pointer (some ⟨p, 0, none⟩), .slice (some ⟨ga, 0, none⟩) n n, .int .i64 (kk : Int), .pointer (some ⟨ga, kk, none⟩), .slice (some ⟨g, 0, none⟩) 1 1, .slice (some ⟨g', 0, none⟩) 1 c', u25, u26, u27, u28, u29, u30, u31, u32, u33, u34, u35, u36, u37, u38, u39, u40, u41, u42, u43, u44, u45, u46, u47, u48, u49, u50, u51, u52, u53, undef], defers := Ds.map mkD } ∧ Sg W g' (PO.rw_ R kk) ∧ V1.heap.size ≤ g' ∧ 1 ≤ c' ∧ Below V1.heap.size V1 W) ?_ ?_
    · gi_region_with (refine ⟨trivial, ?_⟩; gi_at_call 43; refine (callsIn_wide.2 HCL.out).mono ?_; rintro e w3 ⟨g', c', rfl, hsg3, hg3, hc3, hb3⟩)
      all_goals exact ⟨_, _, rfl, hsg3, hg3, hc3, ((Below.refl _ _).drew).trans hb3⟩
    · rintro a' W ⟨g', c', rfl, hsg3, hg3, hc3, hb3⟩
      have hb3V : Below V.heap.size V W := HB11.out.trans (hb3.mono (by omega))
      have hsw := hb3.size
      have HSG3 := Lib.hid hsg3
      have HB3V := Lib.hid hb3V
      have HBX3 := Lib.hid (show Boxed W V.heap.size 3 (.int .i64 (kk : Int)) from (hb3.block _ (by omega)).trans HBX.out)
      have hLl2 := HLL.out
      have hLl8 : L.length ≤ 14 := by omega
      clear hLl2 hsg3 hb3 hb3V d0 d1 d2 HCL
      gi_wp2
      gi_loopw [27] (fun i X => ∃ j : Nat, j ≤ L.length ∧ i = .int .i64 (j : Int) ∧ Hid (Sg X g' (PO.cover R (PO.rw_ R kk) (L.take j))) ∧ Hid (Below V.heap.size V X) ∧ Hid (Boxed X V.heap.size 3 (.int .i64 (kk : Int))) ∧ V1.heap.size ≤ X.heap.size) (fun i _ => L.length - (intOf i).toNat)
      case atStart => exact ⟨0, Nat.zero_le _, rfl, HSG3.out, HB3V.out, HBX3.out, hsw⟩
      case round =>
        obtain ⟨j, hj, rfl, hsg, hbX, hbxX, hsX⟩ := hrel
        have hbw := HBV.out.trans (hbX.out.mono (by omega))
        by_cases hltj : j < L.length
        · obtain ⟨gl, cl, e, hg1, hg2, _, _⟩ := HO1.out.form (by omega)
          injection e with e1 e2 e3
          subst e1 e3
          have hcx := HO1.out.cell (i := j) hltj
          have htk := take_snoc (l := L) (k := j) (List.getElem?_eq_getElem hltj)
          obtain ⟨x, hx⟩ : ∃ x, L[j]?.getD 0 = x := ⟨_, rfl⟩
          rw [hx] at hcx
          have hxl : L[j] = x := by rw [List.getElem?_eq_getElem hltj] at hx; exact hx
          rw [hxl] at htk
          have hxn := HLN.out x (hxl ▸ List.getElem_mem hltj)
          have hne : gl ≠ w.heap.size := by
            rcases HO1.out.2 with ⟨e, _⟩ | ⟨g4, cap, cur, e, _, h4, _⟩
            · cases e
            · injection e with e5
              injection e5 with e5
              injection e5 with e5
              subst e5
              rintro rfl
              exact bc_ne HBX0.out h4
          have hcx2 : wr.cell? ⟨gl, j, none⟩ = some (.int .i64 (x : Int)) := (hbX.out.cell (p := ⟨gl, j, none⟩) (by show gl < _; omega)).trans ((HJ.out.chg.cell (p := ⟨gl, j, none⟩) hg2 hne).trans hcx)
          have hmlt : PO.cover R (PO.rw_ R kk) (L.take j) < 2 ^ n := cover_lt (by have := PO.rw_lt hs.2 kk; rwa [hRn] at this) _
          obtain ⟨m, hm⟩ : ∃ m, PO.cover R (PO.rw_ R kk) (L.take j) = m := ⟨_, rfl⟩
          have HNX := Lib.hid (show PO.cover R (PO.rw_ R kk) (L.take (j + 1)) = if m.testBit x then m ^^^ (m &&& PO.rw_ R x) else m by rw [htk, PO.cover_snoc, hm]; rfl)
          rw [hm] at hsg hmlt
          have hm8 := lt256 hmlt hn
          have hr8 : PO.rw_ R x < 16384 := lt256 (PO.rw_lt hs.2 x) (by omega)
          have hodX := HOD.out.below hbw
          obtain ⟨ga2, ws2, hc02, hab2⟩ := hodX.cell
          rw [hRn] at hc02
          obtain ⟨gx, _, hcgx, hsgx, hgx⟩ := hab2.at_ (i := x) (by omega)
          have HHAS := Lib.hid (has_c g' c' m x wr hsg.out.cell (by omega) hm8)
          have HRA := Lib.hid (removeAll_c g' c' m gx (PO.rw_ R x) wr hsg.out.cell hsg.out.free hsgx hm8 hr8)
          have HST := Lib.hid (show Sg (wr.setCell ⟨g', 0, none⟩ (.int .u64 ((m ^^^ (m &&& PO.rw_ R x) : Nat) : Int))) g' (m ^^^ (m &&& PO.rw_ R x)) from hsg.out.set)
          have HBS := Lib.hid (show Below V.heap.size V (wr.setCell ⟨g', 0, none⟩ (.int .u64 ((m ^^^ (m &&& PO.rw_ R x) : Nat) : Int))) from hbX.out.setCell (p := ⟨g', 0, none⟩) (by show _ ≤ g'; omega) _)
          have HXS := Lib.hid (show Boxed (wr.setCell ⟨g', 0, none⟩ (.int .u64 ((m ^^^ (m &&& PO.rw_ R x) : Nat) : Int))) V.heap.size 3 (.int .i64 (kk : Int)) from box_set hbxX.out (by omega))
          have hss : V1.heap.size ≤ (wr.setCell ⟨g', 0, none⟩ (.int .u64 ((m ^^^ (m &&& PO.rw_ R x) : Nat) : Int))).heap.size := by unfold World.setCell; rw [Array.size_modify]; exact hsX
          obtain ⟨bt, hbt⟩ : ∃ b, m.testBit x = b := ⟨_, rfl⟩
          rw [hbt] at HHAS HNX
          clear hx htk hxl hcx hodX hab2 hsgx hm hbt HSG3 HB3V HBX3
          cases bt with
          | false =>
            gi_wp2_with ((first | refine ⟨trivial, fun _ => by omega, ?_⟩ | refine ⟨trivial, ?_⟩)
                         gi_at_call 31
                         refine (callsIn_wide.2 HHAS.out).mono ?_
                         rintro e w' ⟨rfl, rfl⟩)
            go_roundw
            case rel => exact ⟨j + 1, by omega, by go_num, by rw [HNX.out]; exact hsg.out, hbX.out, hbxX.out, hsX⟩
            case measure => simp [intOf]; omega
          | true =>
            gi_wp2_with (first
              | ((first | refine ⟨trivial, fun _ => by omega, ?_⟩ | refine ⟨trivial, ?_⟩)
                 gi_at_call 31
                 refine (callsIn_wide.2 HHAS.out).mono ?_
                 rintro e w' ⟨rfl, rfl⟩)
              | ((first | refine ⟨trivial, fun _ => by omega, ?_⟩ | refine ⟨trivial, ?_⟩)
                 gi_at_call 44
                 refine (callsIn_wide.2 HRA.out).mono ?_
                 rintro e w' ⟨⟨v', rfl⟩, rfl⟩))
            go_roundw
            case rel => exact ⟨j + 1, by omega, by go_num, by rw [HNX.out]; exact HST.out, HBS.out, HXS.out, hss⟩
            case measure => simp [intOf]; omega
        · obtain rfl : j = L.length := by omega
          have hsgF : Sg wr g' (PO.cover R (PO.rw_ R kk) L) := by
            have := hsg.out
            rwa [List.take_of_length_le (Nat.le_refl _)] at this
          have hels := PO.cover_all HC.out HLM.out kk
          have hmlt : PO.cover R (PO.rw_ R kk) L < 2 ^ n := cover_lt (by have := PO.rw_lt hs.2 kk; rwa [hRn] at this) _
          have hels2 : PO.els (PO.cover R (PO.rw_ R kk) L) = (List.range R.length).filter (PO.covB R kk) := hels
          obtain ⟨m, hm⟩ : ∃ m, PO.cover R (PO.rw_ R kk) L = m := ⟨_, rfl⟩
          rw [hm] at hsgF hmlt hels2
          have HELS := Lib.hid hels2
          have HSGF := Lib.hid hsgF
          clear hsg hsgF hels hels2 hm HSG3 HB3V HBX3
          gi_wp2_with ((first | refine ⟨trivial, fun _ => by omega, ?_⟩ | refine ⟨trivial, ?_⟩)
                       gi_at_call 45
                       refine (callsIn_wide.2 (members_any _ _ _ _)).mono ?_
                       rintro e w' ⟨rfl, rfl⟩)
          obtain ⟨W0, hW0⟩ : ∃ W0, wr.alloc (.cells #[.slice (some ⟨g', 0, none⟩) 1 c'] 67) = W0 := ⟨_, rfl⟩
          have hb0' : Below wr.heap.size wr W0 := by rw [← hW0]; exact (Below.refl _ _).alloc (Nat.le_refl _) _
          have hsz0 : W0.heap.size = wr.heap.size + 1 := by rw [← hW0]; simp
          have cB : W0.cell? ⟨wr.heap.size, 0, none⟩ = some (.slice (some ⟨g', 0, none⟩) 1 c') := by rw [← hW0]; exact (Boxed.new wr 67 _).cell
          have hgl' := HSGF.out.lt
          have hS0 : W0.cell? ⟨g', 0, none⟩ = some (.int .u64 (m : Int)) := (hb0'.cell (p := ⟨g', 0, none⟩) hgl').trans HSGF.out.cell
          have hT0 : Tab W0 := (HT.out.below htl hbw).below (by omega) hb0'
          have hV0 : Below V.heap.size V W0 := hbX.out.trans (hb0'.mono (by omega))
          have hJ0 : CvR w1 w.heap.size hm Ds (covTo R kk) W0 := HJ.out.new hhm hV0
          have hbox0 : Boxed W0 V.heap.size 3 (.int .i64 (kk : Int)) := (hb0'.block _ hbxX.out.lt).trans hbxX.out
          have hEl := covTo_len R kk
          have hEl2 : (covTo R kk).length ≤ 200 := by
            rw [hRn] at hEl
            exact Nat.le_trans hEl (Nat.le_trans (Nat.mul_le_mul (show kk ≤ 14 by omega) hn) (by omega))
          rw [hW0]
          clear hW0 HSGF hEl hb0'
          refine wpIn_rangeFunc_ownG rfl h1 (gf := 56) (lb := #[.pointer (some ⟨wr.heap.size, 0, none⟩)]) rfl trivial (enters_of Tryd.func56 (by kernel_rfl) rfl)
            (members_stops_c (N - 1) (by omega) wr.heap.size n g' c' m (fun k => k = 0) rfl hmlt hn W0 hT0 cB hS0)
            (fun h k => Keeps.trans h k) (fun W l o o' hl h _ _ => Keeps.putObj (m := W0.heap.size) (by rintro k rfl; omega) W l o o' hl h) (Below.refl _ _) (fun _ => rfl)
            (fun pre X => CvR w1 w.heap.size hm Ds (covTo R kk ++ (vals pre).map fun b => (kk, b)) X ∧ Boxed X V.heap.size 3 (.int .i64 (kk : Int)))
            (fun _ _ _ => False)
            (fun pre X Y row hJ hg hr => ⟨hJ.1.own (D := W0.heap.size) (by omega) (by omega) hg hr, block_own hJ.2 hg fun r e => (hr r e).2⟩)
            (fun _ _ _ _ _ hs _ _ => hs)
            ⟨by rw [show (vals ([] : List (El n))).map (fun b => (kk, b)) = [] from rfl, List.append_nil]; exact hJ0, hbox0⟩
            (fun x => { tmps := #[.pointer (some ⟨p, 0, none⟩), undef, .slice none 0 0, .pointer (some ⟨w.heap.size, 0, none⟩), .slice lA L.length lc, .pointer (some ⟨V.heap.size, 0, none⟩), .slice (some ⟨g', 0, none⟩) 1 c', u7, u8, .int .i64 (x.1 : Int), .pointer (some ⟨p, 0, none⟩), .slice lA L.length lc, .pointer (some ⟨p, 0, none⟩), .int .i64 n, .int .i64 (kk : Int), .bool true, .int .i64 (kk : Int), .pointer (some ⟨p, 0, none⟩), .pointer (some ⟨p, 0, none⟩), .pointer (some ⟨p, 0, none⟩), .slice (some ⟨ga, 0, none⟩) n n, .int .i64 (kk : Int), .pointer (some ⟨ga, kk, none⟩), .slice (some ⟨g, 0, none⟩) 1 1, .slice (some ⟨g', 0, none⟩) 1 c', .slice lA L.length lc, .int .i64 L.length, .int .i64 L.length, .bool false, u29, u30, u31, u32, u33, u34, u35, u36, u37, u38, u39, u40, u41, u42, u43, .slice (some ⟨g', 0, none⟩) 1 c', .func (Fn.func 56) #[] #[.pointer (some ⟨wr.heap.size, 0, none⟩)], .int .i64 (x.1 : Int), u47, u48, u49, u50, u51, u52, u53, undef], defers := [] }) ?assign ?body ?done ?stop
          case assign =>
            intro l x W K hK
            unfold elA
            gi_wp2
            exact hK
          case body =>
            rintro l pre ⟨x, hx⟩ X ⟨hJ, hbx⟩ hlen
            obtain ⟨E, hE⟩ : ∃ E, (covTo R kk ++ (vals pre).map fun b => (kk, b)) = E := ⟨_, rfl⟩
            have hEl3 : E.length ≤ 220 := by rw [← hE, List.length_append, List.length_map]; unfold vals; rw [List.length_map]; omega
            have hnext : (covTo R kk ++ (vals (pre ++ [(⟨x, hx⟩ : El n)])).map fun b => (kk, b)) = E ++ [(kk, x)] := by rw [vals_snoc, List.map_append, ← List.append_assoc, hE]; rfl
            rw [hE] at hJ
            obtain ⟨v, hbv, hrow⟩ := hJ.row
            obtain ⟨A', c2, rfl⟩ := ownP_form hrow
            have hXs := hJ.chg.size
            have e0 := hbv.cell
            have e1 := hbx.cell
            have hnews : ∀ j u, [nv kk, nv x][j]? = some u → (X.alloc (.cells #[.int .i64 (kk : Int), .int .i64 (x : Int)] 42)).cell? ((⟨X.heap.size, 0, none⟩ : Addr).add j) = some u := fun j u hu => World.news_of_block (World.alloc_heap_new X (.cells #[.int .i64 (kk : Int), .int .i64 (x : Int)] 42)) j u hu
            have hrow0 := hrow
            unfold OwnP at hrow0
            have HROW := Lib.hid hrow
            have HJX := Lib.hid hJ
            have HNX := Lib.hid hnext
            clear hE hnext hrow hJ hJ0 hbox0 hT0 hS0 cB
            gi_wp2_with (gi_at_builtin
                         refine wpListIn_append_own _ rfl (.tmp 47) (.tmp 51) 40 rfl w1.heap.size 42 i0 _ 2 16 Tryd.underlying40 hi0 hz0 hz1 hz2 rfl (by decide) _ E.length _ rfl (hrow0.alloc _) ⟨X.heap.size, 0, none⟩ 1 1 [nv kk, nv x] rfl rfl hnews (by simp [nv, Value.oneCell']) (by simp only [maxLen]; omega) (by omega) (by simp; omega) ?_
                         intro v' w7 hown' hgrow _
                         obtain ⟨g7, c7, rfl⟩ := ownsRow_succ hown'
                         obtain ⟨hv1, hv2, hr2, hk2, hb2⟩ := hbv.appended (by decide) (ownP_low HROW.out (show w.heap.size ≤ w1.heap.size by omega)) (by omega) (Nat.le_refl _) (ownsRow_low hown' (show w.heap.size ≤ w1.heap.size by omega)) hgrow
                         have hc1 := hv1.cell
                         have hf1 := hv1.frozen
                         have HFIN := Lib.hid (cv_step HJX.out HROW.out hbx hbv hown' hgrow (show w.heap.size < w1.heap.size by omega)))
            refine ⟨hk2.from _, ?_, ?_⟩
            · refine ⟨HFIN.out.2.2.1, fun k hk => ?_⟩
              subst hk
              exact HFIN.out.2.2.2 _ (by omega) (by omega)
            · refine ⟨?_, HFIN.out.2.1⟩
              rw [HNX.out]
              exact HFIN.out.1
          case done =>
            rintro D ys X hD hys ⟨hJ, _⟩ hK
            have hDl := (Array.getElem?_eq_some_iff.1 hK).1
            rw [show vals ys = (List.range R.length).filter (PO.covB R kk) from (show vals ys = PO.els m from hys).trans HELS.out, ← covTo_succ] at hJ
            have hfin : CvR w1 w.heap.size (D + 1) (D :: Ds) (covTo R (kk + 1)) X := ⟨hJ.row, hJ.chg, hJ.mks.cons hK (by omega) (by omega) (Nat.lt_succ_self D)⟩
            have HFIN := Lib.hid hfin
            clear hfin hJ hJ0 hT0 hS0 cB hK
            gi_wp2
            exact ⟨⟨kk + 1, D + 1, D :: Ds, _, _, _, _, _, _, _, _, _, _, _, _, _, _, _, _, _, _, _, _, _, _, _, _, _, _, _, _, _, _, _, _, _, _, _, _, _, _, _, _, _, _, _, _, by first | rfl | exact rfl, by omega, by omega, HFIN.out⟩, by simp [intOf]; omega⟩
          case stop =>
            rintro D c pre W _ _ h _
            exact h.elim
  · obtain rfl : n = kk := by omega
    obtain ⟨v, hbx, ho⟩ := hJ.row
    obtain ⟨A', c', rfl⟩ := ownP_form ho
    have hcv : covTo R R.length = PO.covs R := rfl
    have hbc := hbx.cell
    have HJ := Lib.hid hJ
    have HO := Lib.hid ho
    have HCV := Lib.hid (show covTo R n = PO.covs R by rw [← hRn]; rfl)
    clear hJ ho hcv hbx
    gi_wp2
    refine HJ.out.mks.leave fun W' ht => ⟨_, results_tmp rfl _ _ _, _, rfl, ?_, ?_⟩
    · rw [← HCV.out]
      exact ownP_low (own_of_block HO.out fun b hvb => ht.block b (fun hm2 => by
        rcases HO.out.2 with ⟨e, _⟩ | ⟨g, cap, cur, e, _, h2, _⟩
        · rw [e] at hvb; cases hvb
        · rw [e] at hvb
          have e2 : some g = some b := hvb
          injection e2 with e2
          subst e2
          exact HJ.out.mks.ne h2 hm2)) (by omega)
    · have hch := ht.chg HJ.out.mks HJ.out.chg (Nat.le_refl _)
      exact HB1.out.trans (hch.below (B := w.heap.size) (fun b _ e => by omega) (by omega))
end Go.Proofs.YtlomhoohmcnniaaDoor

namespace Go.Proofs.YtlomhoohmcnniaaDoor
open Go Go.RowKit Go.Proofs Go.Shelf
attribute [local go_sem] Oper.semAt_some

theorem pairsF_any (A : Option Addr) (m c : Nat) (W : World) : Calls Tryd.prog 27 #[.slice A m c] W fun e w' => e = .returned (.func (.func 46) #[] #[.pointer (some ⟨W.heap.size, 0, none⟩)]) ∧ w' = W.alloc (.cells #[.slice A m c] 23) := by
  go_enter Tryd.func27, Tryd.ntmps27
  go_wp2
  go_ret
  exact ⟨rfl, rfl⟩
theorem pairs_stops (n : Nat) (hn : 8 ≤ n) (Bs : Nat) (A : Option Addr) (m c : Nat) (R : List DP.St) (W0 : World) (hR : Run W0 A m c R) (hm : m ≤ 14) (w : World) (hw : Below W0.heap.size W0 w) (hBs : RBox w Bs (.slice A m c)) :
    SeqStopsK Fence.wide n Tryd.prog 46 #[.pointer (some ⟨Bs, 0, none⟩)] prA (KpD W0.heap.size) (fun ys => ys = DP.prs R) (fun pre => pre <+: DP.prs R) 400 w :=
  fun l J Jx W hW hJ _ hY h0 => pairs1_in n hn l Bs A m c R W0 J Jx W hJ hY hR hm (hw.trans (hW.mono hw.size)) ((hW.block _ (heap_lt hBs)).trans hBs) h0
/-- What holds between two pairs. -/
def OrJ (w : World) (E : List (Nat × Nat)) (X : World) : Prop := ∃ v, Boxed X w.heap.size 40 v ∧ OwnP X w.heap.size v E ∧ Below w.heap.size w X
theorem zero_prs : (Tryd.prog.info? 40).map (fun i => (i.zero, i.size)) = some (some (.slice none 0 0), 1) := by kernel_rfl
theorem kpD_b {lo : Nat} {w : World} (hn : lo ≤ w.heap.size) (W : World) (l : Nat) (o o' : Obj) (hl : w.heap.size ≤ l) (h : W.heap[l]? = some o) (hc : o.isCells = false) (hw : o.isWalk = false) : KpD lo W (W.putObj l o') := by
  refine ⟨belowK_b hn W l o o' hl h hc hw, by simp, fun b C t fr hb _ => ?_⟩
  rw [World.putObj_heap_other, hb]
  rintro rfl
  rw [h] at hb
  injection hb with hb
  subst hb
  cases hc
theorem kpD_app {X w7 : World} {o : Obj} {lo bc k : Nat} {v v' : Value} {E : List (Nat × Nat)} (hbv : Boxed X bc 40 v) (hrow : OwnP X k v E) (hg : (X.alloc o).grownBy w7 v.ownBlock) (hb : Below lo X (w7.setCell ⟨bc, 0, none⟩ v')) : KpD lo X (w7.setCell ⟨bc, 0, none⟩ v') := by
  refine ⟨hb, hb.size, fun b C t fr h ht => ?_⟩
  have hbl : b < X.heap.size := heap_lt h
  have hne : b ≠ bc := by
    rintro rfl
    rw [show X.heap[b]? = _ from hbv] at h
    injection h with h
    injection h with _ h
    subst h
    rcases ht with e | e <;> cases e
  rw [Below.heap_setCell _ _ _ _ hne, hg.block b (by simp; omega) ?_, Below.heap_alloc _ _ _ hbl, h]
  intro e
  rcases hrow.2 with ⟨e', _⟩ | ⟨g', cap', cur, e', g1, g2, _⟩
  · rw [e'] at e; cases e
  · rw [e'] at e
    have e2 : some b = some g' := e
    injection e2 with e2
    subst e2
    rw [h] at g2
    injection g2 with g2
    injection g2 with _ g2
    subst g2
    rcases ht with e | e <;> cases e
theorem pc_at : ∀ {E : List (Nat × Nat)} {j : Nat} {p : Nat × Nat}, E[j]? = some p → (pc E)[j * 2]? = some (nv p.1) ∧ (pc E)[j * 2 + 1]? = some (nv p.2)
  | [], j, p, h => by simp at h
  | q :: t, 0, p, h => by
    simp only [List.getElem?_cons_zero, Option.some.injEq] at h
    subst h
    exact ⟨rfl, rfl⟩
  | q :: t, j + 1, p, h => by
    have h2 := pc_at (E := t) (j := j) (p := p) (by simpa using h)
    have e : pc (q :: t) = nv q.1 :: nv q.2 :: pc t := rfl
    rw [e, show (j + 1) * 2 = j * 2 + 1 + 1 by omega]
    simpa using h2
theorem edg_of_own {X : World} {lo c : Nat} {A : Option Addr} {E : List (Nat × Nat)} (h : OwnP X lo (.slice A E.length c) E) : EdgI X X.heap.size A E.length (iP E) := by
  refine ⟨iP_len E, fun h0 => ?_⟩
  have hc := h
  rcases h.2 with ⟨e, _⟩ | ⟨g, cap, cur, e, _, hg, _⟩
  · injection e with _ e _
    omega
  · injection e with e1 e2 e3
    subst e1
    subst e3
    refine ⟨g, 0, rfl, (Array.getElem?_eq_some_iff.1 hg).1, fun j x y hj => ?_⟩
    unfold iP at hj
    rw [List.getElem?_map] at hj
    obtain ⟨p, hp, e⟩ := Option.map_eq_some_iff.1 hj
    injection e with ex ey
    subst ex ey
    obtain ⟨h1, h2⟩ := pc_at hp
    have c1 := World.ownsRow.cells hc (g := g) rfl _ _ h1
    have c2 := World.ownsRow.cells hc (g := g) rfl _ _ h2
    rw [Addr.add_lit] at c1 c2
    exact ⟨c1, c2⟩
theorem prs_len_le {R : List DP.St} (h : R.length ≤ 14) : (DP.prs R).length ≤ 196 := by
  have h1 := DP.prTo_len R R.length
  have h2 : R.length * R.length ≤ 14 * 14 := Nat.mul_le_mul h h
  unfold DP.prs
  omega
set_option maxRecDepth 100000 in
set_option maxHeartbeats 8000000 in
theorem order_in (N : Nat) (hN : 12 ≤ N) {w : World} {A : Option Addr} {m c : Nat} {R : List DP.St} (hR : Run w A m c R) (hm : m ≤ 14) (hT : Tab w) :
    CallsIn Fence.wide N Tryd.prog 11 #[.slice A m c] w fun e w' => ∃ p, e = .returned (.pointer (some ⟨p, 0, none⟩)) ∧ Od w' w'.heap.size p (DP.ordD R) ∧ Below w.heap.size w w' := by
  have h1 : 1 ≤ N := by omega
  have hlen : R.length = m := hR.sl.len
  have hd5 : decide ((5000 : Int) < (m : Int)) = false := by simp; omega
  have htl := hT.lt
  have HR := Lib.hid hR
  have HT := Lib.hid hT
  clear hR hT
  refine callsIn_of_wp_marks Tryd.func11 rfl trivial ?_ rfl
  simp only [Tryd.ntmps11, List.size_toArray, List.length_cons, List.length_nil, Nat.reduceAdd, Nat.reduceSub, Array.replicate_succ, Array.replicate_zero, List.push_toArray, List.append_toArray, List.nil_append, List.cons_append]
  gi_wp2_with ((first | refine ⟨trivial, fun _ => by omega, ?_⟩ | refine ⟨trivial, ?_⟩)
               gi_at_call 27
               refine (callsIn_wide.2 (pairsF_any _ _ _ _)).mono ?_
               rintro e w' ⟨rfl, rfl⟩)
  obtain ⟨W1, hW1⟩ : ∃ U, ((w.alloc (.cells #[.slice none 0 0] 40)).alloc (.cells #[.slice A m c] 23)) = U := ⟨_, rfl⟩
  have hb1 : Below w.heap.size w W1 := by rw [← hW1]; exact ((Below.refl _ _).alloc (Nat.le_refl _) _).alloc (by simp) _
  have hz1 : W1.heap.size = w.heap.size + 2 := by rw [← hW1]; simp
  have hbox : Boxed W1 w.heap.size 40 (.slice none 0 0) := by rw [← hW1]; exact (Boxed.new w _ _).alloc _
  have hrb : RBox W1 (w.heap.size + 1) (.slice A m c) := by
    unfold RBox
    have := World.alloc_heap_new (w.alloc (.cells #[.slice none 0 0] 40)) (.cells #[.slice A m c] 23)
    rw [World.size_alloc, hW1] at this
    exact this
  obtain ⟨i0, hi0, hz0, hzz1, hz2⟩ := info_parts info_pr
  have hzv := zero_pr_run
  have hJ0 : OrJ w [] W1 := ⟨_, hbox, World.ownsRow_nil _ _ _ _, hb1⟩
  rw [hW1]
  clear hW1
  refine wpIn_rangeFunc_ownG rfl h1 (gf := 46) (lb := #[.pointer (some ⟨w.heap.size + 1, 0, none⟩)]) rfl trivial (enters_of Tryd.func46 (by kernel_rfl) rfl)
    (pairs_stops (N - 1) (by omega) (w.heap.size + 1) A m c R w HR.out hm W1 hb1 hrb)
    (fun h k => KpD.trans h k) (fun W l o o' hl h hc hw => kpD_b (w := W1) (by omega) W l o o' hl h hc hw) (Below.refl _ _) (fun _ => rfl)
    (fun pre X => OrJ w pre X) (fun _ _ _ => False)
    (fun pre X Y row hJ hg hr => by
      obtain ⟨v, j1, j2, j3⟩ := hJ
      exact ⟨v, block_own j1 hg fun r e => (hr r e).2, ownP_own j2 hg fun r e => (hr r e).2, ownFrom_below (β := Unit) (B := W1.heap.size) (Nat.le_refl _) (by omega) () X Y row j3 hg hr⟩)
    (fun _ _ _ _ _ hs _ _ => hs)
    hJ0
    (fun x => { tmps := #[.slice A m c, undef, .pointer none, .pointer (some ⟨w.heap.size, 0, none⟩), .int .i64 (x.1 : Int), .int .i64 (x.2 : Int), undef, undef, .slice A m c, .int .i64 (m : Int), .bool false, .slice A m c, .func (Fn.func 46) #[] #[.pointer (some ⟨w.heap.size + 1, 0, none⟩)], .int .i64 (x.1 : Int), .int .i64 (x.2 : Int), undef, undef, undef, undef, undef, undef, undef, undef, undef, undef, undef, undef, undef, undef], defers := [] }) ?assign ?body ?done ?stop
  case assign =>
    intro l x W K hK
    unfold prA
    gi_wp2
    exact hK
  case body =>
    rintro l pre ⟨a, b⟩ X ⟨v, hbv, hrow, hB⟩ hlen
    obtain ⟨A', c2, rfl⟩ := ownP_form hrow
    have hXs := hB.size
    have e0 := hbv.cell
    have hnews : ∀ j u, [nv a, nv b][j]? = some u → (X.alloc (.cells #[.int .i64 (a : Int), .int .i64 (b : Int)] 42)).cell? ((⟨X.heap.size, 0, none⟩ : Addr).add j) = some u := fun j u hu => World.news_of_block (World.alloc_heap_new X (.cells #[.int .i64 (a : Int), .int .i64 (b : Int)] 42)) j u hu
    have hrow0 := hrow
    unfold OwnP at hrow0
    have HROW := Lib.hid hrow
    have HB := Lib.hid hB
    clear hrow hB hJ0 hb1 hbox hrb
    gi_wp2_with (gi_at_builtin
                 refine wpListIn_append_own _ rfl (.tmp 15) (.tmp 19) 40 rfl w.heap.size 42 i0 _ 2 16 Tryd.underlying40 hi0 hz0 hzz1 hz2 rfl (by decide) _ pre.length _ rfl (hrow0.alloc _) ⟨X.heap.size, 0, none⟩ 1 1 [nv a, nv b] rfl rfl hnews (by simp [nv, Value.oneCell']) (by simp only [maxLen]; omega) (by omega) (by simp; omega) ?_
                 intro v' w7 hown' hgrow _
                 obtain ⟨g7, c7, rfl⟩ := ownsRow_succ hown'
                 obtain ⟨hv1, hv2, hr2, hk2, hb2⟩ := hbv.appended (by decide) HROW.out (by omega) (Nat.le_refl _) hown' hgrow
                 have hc1 := hv1.cell
                 have hf1 := hv1.frozen
                 have HKP := Lib.hid (kpD_app hbv HROW.out hgrow hb2)
                 have HB2 := Lib.hid (HB.out.trans hb2)
                 have HR2 := Lib.hid hr2
                 have HV2 := Lib.hid hv2
                 clear hr2 hb2 hv2)
    refine ⟨hk2.from _, HKP.out, ⟨_, HV2.out, ?_, HB2.out⟩⟩
    unfold OwnP
    rw [List.length_append, pc_snoc]
    exact HR2.out
  case done =>
    rintro D ys X hD hys ⟨v, hbv, hrow, hB⟩ hK
    rw [show ys = DP.prs R from hys] at hrow
    clear hys
    obtain ⟨A', c2, rfl⟩ := ownP_form hrow
    have hT2 := HT.out.below htl hB
    have hnew := new_any m (DP.prs R).length c2 A' (iP (DP.prs R)) X hT2 hm (by have := prs_len_le (R := R) (by omega); omega) (edg_of_own hrow)
    have h0 : newC m (iP (DP.prs R)) = 0 := (ord_ok hm (fun p hp => by have := DP.prs_le R p hp; rwa [hlen] at this)).1
    rw [h0] at hnew
    have hod : ordR m (iP (DP.prs R)) = DP.ordD R := by unfold DP.ordD; rw [hlen]
    rw [hod] at hnew
    have hbc := hbv.cell
    have HNEW := Lib.hid hnew
    have HB := Lib.hid hB
    have HK := Lib.hid hK
    have hDl := (Array.getElem?_eq_some_iff.1 hK).1
    clear hnew hrow hB hT2 hJ0 hb1 hbox hrb hK h0 hod
    gi_wp2_with ((first | refine ⟨trivial, fun _ => by omega, ?_⟩ | refine ⟨trivial, ?_⟩)
                 gi_at_call 28
                 refine (callsIn_wide.2 HNEW.out).mono ?_
                 rintro e w' ⟨q, rfl, hb, h2, _⟩
                 obtain ⟨p, rfl, ho⟩ := h2 rfl
                 have HBN := Lib.hid hb
                 have HON := Lib.hid ho
                 have hKN := (hb.block D hDl).trans HK.out
                 have HKN := Lib.hid hKN
                 clear hb h2 ho hKN)
    refine ⟨by simp, .inl ⟨_, _, rfl, run_takeDeferred HKN.out, ?_⟩⟩
    refine ⟨_, results_tmp rfl _ _ _, _, rfl, ?_, ?_⟩
    · obtain ⟨o1, ga, ws, o2, o3⟩ := HON.out
      refine ⟨by simpa using o1, ga, ws, block_own o2 (grownBy_putObj' w' D _) (fun r e => by cases e; exact ⟨_, HKN.out, rfl⟩), ?_⟩
      exact (o3.more (by simp)).own (grownBy_putObj' w' D _) (deferred_row HKN.out)
    · have hb3 := HB.out.trans (HBN.out.mono HB.out.size)
      exact hb3.trans (belowK_b (w := w) (Nat.le_refl _) w' D _ _ (by omega) HKN.out rfl rfl)
  case stop =>
    rintro D c pre W _ _ h _
    exact h.elim
theorem order_any {w : World} {A : Option Addr} {m c : Nat} {R : List DP.St} (hR : Run w A m c R) (hm : m ≤ 14) (hT : Tab w) :
    Calls Tryd.prog 11 #[.slice A m c] w fun e w' => ∃ p, e = .returned (.pointer (some ⟨p, 0, none⟩)) ∧ Od w' w'.heap.size p (DP.ordD R) ∧ Below w.heap.size w w' :=
  callsIn_wide.1 (order_in 12 (Nat.le_refl _) hR hm hT)
theorem covers_any {w : World} {hi p : Nat} {R : List DP.St} (h : Od w hi p (DP.ordD R)) (hm : R.length ≤ 14) (hT : Tab w) (hlo : hi ≤ w.heap.size) :
    Calls Tryd.prog 26 #[.pointer (some ⟨p, 0, none⟩)] w fun e w' => ∃ v, e = .returned v ∧ OwnP w' w.heap.size v (PO.covs (DP.ordD R)) ∧ Below w.heap.size w w' :=
  callsIn_wide.1 (covers_in 6 (Nat.le_refl _) h (DP.ordD_len hm) hm (DP.ordD_cl hm) hT hlo)
end Go.Proofs.YtlomhoohmcnniaaDoor
