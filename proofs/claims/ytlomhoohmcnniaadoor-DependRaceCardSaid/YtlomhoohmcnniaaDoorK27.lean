/-
  The contract of the reference's Less: the matrix of happens-before. Condition: the run lies in memory, and has at most 14 steps.
-/
import Derived.Test.YtlomhoohmcnniaaDoorK17
import Derived.Test.YtlomhoohmcnniaaDoorK26
import Derived.Test.YtlomhoohmcnniaaDoorK2
import Derived.Test.YtlomhoohmcnniaaDoorK13
import Derived.Test.YtlomhoohmcnniaaDoorK25
import Derived.Deep.Cut

namespace Go.Proofs.YtlomhoohmcnniaaDoor
open Go Go.RowKit Go.Proofs
attribute [local go_sem] Oper.semAt_some

def bl (n : Nat) (f : Nat → Bool) : Array Value := ((List.range n).map fun y => Value.bool (f y)).toArray
theorem bl_at {n y : Nat} (f : Nat → Bool) (h : y < n) : (bl n f)[y]? = some (.bool (f y)) := by simp [bl, h]
theorem bl_set {n y : Nat} (f : Nat → Bool) (b : Bool) : (bl n f).setIfInBounds y (.bool b) = bl n (fun j => if j = y then b else f j) := by
  apply Array.ext_getElem?
  intro j
  rw [Array.getElem?_setIfInBounds]
  by_cases e : y = j
  · subst e
    rw [if_pos rfl]
    by_cases hy : y < n
    · rw [if_pos (by simp [bl]; exact hy), bl_at _ hy, if_pos rfl]
    · rw [if_neg (by simp [bl]; omega), Array.getElem?_eq_none (by simp [bl]; omega)]
  · rw [if_neg e]
    by_cases hy : j < n
    · rw [bl_at _ hy, bl_at _ hy, if_neg (Ne.symm e)]
    · rw [Array.getElem?_eq_none (by simp [bl]; omega), Array.getElem?_eq_none (by simp [bl]; omega)]
theorem ty_neL {V : World} {x y : Nat} {C D : Array Value} {t u : TypeId} {f f' : Nat × Nat} (h : V.heap[x]? = some (.cells C t f)) (k : V.heap[y]? = some (.cells D u f')) (htu : t ≠ u) : x ≠ y := by
  rintro rfl
  rw [h] at k
  injection k with k
  injection k with _ k
  exact htu k
theorem blk_setL {W : World} {g j : Nat} {C : Array Value} {t : TypeId} {fr : Nat × Nat} {u : Value} (h : W.heap[g]? = some (.cells C t fr)) : (W.setCell ⟨g, j, none⟩ u).heap[g]? = some (.cells (C.setIfInBounds j u) t fr) := by
  simp only [World.setCell, Array.getElem?_modify, ↓reduceIte, h, Option.map_some]
  rfl
theorem rep_rangeL (n : Nat) (v : Value) : Array.replicate n v = ((List.range n).map fun _ => v).toArray := by
  apply Array.ext'
  rw [Array.toList_replicate]
  apply List.ext_getElem?
  intro i
  rw [List.getElem?_replicate, List.getElem?_map]
  by_cases h : i < n
  · rw [if_pos h, List.getElem?_range h]
    rfl
  · rw [if_neg h, List.getElem?_eq_none (by simp; omega)]
    rfl
/-- The matrix at block gm, whose rows from i0 on are made. -/
structure ML (W : World) (lo gm n i0 : Nat) (gs : Nat → Nat) (M : Nat → Nat → Bool) : Prop where
  top : W.heap[gm]? = some (.cells ((List.range n).map fun i => if i0 ≤ i then Value.slice (some ⟨gs i, 0, none⟩) n n else .slice none 0 0).toArray 30 (0, 0))
  row : ∀ i, i0 ≤ i → i < n → W.heap[gs i]? = some (.cells (bl n (M i)) 4 (0, 0))
  inj : ∀ i j, i0 ≤ i → i < n → i0 ≤ j → j < n → gs i = gs j → i = j
  lgm : lo ≤ gm
  lgs : ∀ i, i0 ≤ i → i < n → lo ≤ gs i
section
variable {W W' : World} {lo gm n i0 : Nat} {gs : Nat → Nat} {M M' : Nat → Nat → Bool}
theorem ML.keep (h : ML W lo gm n i0 gs M) (hb : Below W.heap.size W W') : ML W' lo gm n i0 gs M :=
  ⟨(hb.block _ (heap_lt h.top)).trans h.top, fun i h1 h2 => (hb.block _ (heap_lt (h.row i h1 h2))).trans (h.row i h1 h2), h.inj, h.lgm, h.lgs⟩
theorem ML.at_ (h : ML W lo gm n i0 gs M) {i : Nat} (h1 : i0 ≤ i) (h2 : i < n) : W.cell? ⟨gm, i, none⟩ = some (.slice (some ⟨gs i, 0, none⟩) n n) := by
  rw [cell_of_row W gm i _ _ (0, 0) h.top]
  simp [h1, h2]
theorem ML.bit (h : ML W lo gm n i0 gs M) {i y : Nat} (h1 : i0 ≤ i) (h2 : i < n) (hy : y < n) : W.cell? ⟨gs i, y, none⟩ = some (.bool (M i y)) := by
  rw [cell_of_row W (gs i) y _ _ (0, 0) (h.row i h1 h2)]
  exact bl_at _ hy
theorem ML.free (h : ML W lo gm n i0 gs M) {i : Nat} (h1 : i0 ≤ i) (h2 : i < n) (y : Nat) : W.frozen? ⟨gs i, y, none⟩ = false := by simp [World.frozen?, h.row i h1 h2]
theorem ML.free0 (h : ML W lo gm n i0 gs M) (y : Nat) : W.frozen? ⟨gm, y, none⟩ = false := by simp [World.frozen?, h.top]
theorem ML.at0 (h : ML W lo gm n i0 gs M) {i : Nat} (h1 : i < i0) (h2 : i < n) : W.cell? ⟨gm, i, none⟩ = some (.slice none 0 0) := by
  rw [cell_of_row W gm i _ _ (0, 0) h.top]
  simp [h2]
  omega
theorem ML.congr (h : ML W lo gm n i0 gs M) (hM : ∀ x y, i0 ≤ x → x < n → y < n → M x y = M' x y) : ML W lo gm n i0 gs M' := by
  refine ⟨h.top, fun i h1 h2 => ?_, h.inj, h.lgm, h.lgs⟩
  rw [h.row i h1 h2]
  congr 2
  unfold bl
  congr 1
  exact List.map_congr_left fun y hy => by rw [hM i y h1 h2 (List.mem_range.1 hy)]
theorem ML.set (h : ML W lo gm n i0 gs M) {x y : Nat} (h1 : i0 ≤ x) (h2 : x < n) (b : Bool) : ML (W.setCell ⟨gs x, y, none⟩ (.bool b)) lo gm n i0 gs (fun i j => if i = x ∧ j = y then b else M i j) := by
  have hk : ∀ c, c ≠ gs x → (W.setCell ⟨gs x, y, none⟩ (.bool b)).heap[c]? = W.heap[c]? := fun c hc => Below.heap_setCell _ _ _ _ hc
  refine ⟨(hk gm (ty_neL h.top (h.row x h1 h2) (by decide))).trans h.top, fun i h3 h4 => ?_, h.inj, h.lgm, h.lgs⟩
  by_cases e : i = x
  · subst e
    rw [blk_setL (h.row i h3 h4), bl_set]
    congr 2
    unfold bl
    congr 1
    exact List.map_congr_left fun j _ => by simp
  · rw [hk (gs i) (fun e2 => e (h.inj i x h3 h4 h1 h2 e2)), h.row i h3 h4]
    congr 2
    unfold bl
    congr 1
    exact List.map_congr_left fun j _ => by dsimp only; rw [if_neg (fun h => e h.1)]
/-- A row is made. -/
theorem ML.make {i : Nat} (h : ML W lo gm n (i + 1) gs M) (hi : i < n) (hlo : lo ≤ W.heap.size) : ML ((W.alloc (.cells (Array.replicate n (.bool false)) 4)).setCell ⟨gm, i, none⟩ (.slice (some ⟨W.heap.size, 0, none⟩) n n)) lo gm n i (fun j => if j = i then W.heap.size else gs j) (fun x y => if x = i then false else M x y) := by
  have ha := World.alloc_heap_new W (.cells (Array.replicate n (.bool false)) 4)
  have hg := heap_lt h.top
  have hk : ∀ c, c ≠ gm → ((W.alloc (.cells (Array.replicate n (.bool false)) 4)).setCell ⟨gm, i, none⟩ (.slice (some ⟨W.heap.size, 0, none⟩) n n)).heap[c]? = (W.alloc (.cells (Array.replicate n (.bool false)) 4)).heap[c]? := fun c hc => Below.heap_setCell _ _ _ _ hc
  refine ⟨?_, fun j h3 h4 => ?_, fun j k h3 h4 h5 h6 e => ?_, h.lgm, fun j h3 h4 => ?_⟩
  · have ht : (W.alloc (.cells (Array.replicate n (.bool false)) 4)).heap[gm]? = _ := (Below.heap_alloc W _ gm hg).trans h.top
    simp only [World.setCell, Array.getElem?_modify, ↓reduceIte, ht, Option.map_some, Option.some.injEq, Obj.cells.injEq, and_true]
    apply Array.ext_getElem?
    intro j
    show (Array.setIfInBounds _ i _)[j]? = _
    rw [Array.getElem?_setIfInBounds]
    by_cases e : i = j
    · subst e
      rw [if_pos rfl, if_pos (by simp; exact hi)]
      simp [hi]
    · rw [if_neg e]
      by_cases hj : j < n
      · simp only [List.getElem?_toArray, List.getElem?_map, List.getElem?_range hj, Option.map_some]
        congr 1
        by_cases h1 : i + 1 ≤ j
        · rw [if_pos h1, if_pos (by omega), if_neg (Ne.symm e)]
        · rw [if_neg h1, if_neg (by omega)]
      · rw [Array.getElem?_eq_none (by simp; omega), Array.getElem?_eq_none (by simp; omega)]
  · by_cases e : j = i
    · rw [if_pos e, hk _ (by omega), ha]
      congr 2
      rw [rep_rangeL]
      unfold bl
      congr 1
      exact List.map_congr_left fun y _ => by dsimp only; rw [if_pos e]
    · have h5 := h.row j (by omega) h4
      rw [if_neg e, hk _ (ty_neL h5 h.top (by decide)), Below.heap_alloc W _ _ (heap_lt h5), h5]
      congr 2
      unfold bl
      congr 1
      exact List.map_congr_left fun y _ => by dsimp only; rw [if_neg e]
  · by_cases e1 : j = i <;> by_cases e2 : k = i
    · omega
    · rw [if_pos e1, if_neg e2] at e
      have := heap_lt (h.row k (by omega) h6)
      omega
    · rw [if_neg e1, if_pos e2] at e
      have := heap_lt (h.row j (by omega) h4)
      omega
    · rw [if_neg e1, if_neg e2] at e
      exact h.inj j k (by omega) h4 (by omega) h6 e
  · by_cases e : j = i
    · rw [if_pos e]
      exact hlo
    · rw [if_neg e]
      exact h.lgs j (by omega) h4
end
theorem info_boolL : (Tryd.prog.info? 4).map (fun i => (i.zero, i.size, i.bytes)) = some (some (.bool false), 1, 1) := by kernel_rfl
theorem info_boolsL : (Tryd.prog.info? 30).map (fun i => (i.zero, i.size, i.bytes)) = some (some (.slice none 0 0), 1, 24) := by kernel_rfl
theorem make_boolL (n : Nat) (hn : n ≤ 100000) : ∀ W : World, (Instr.makeSlice 30 (.int .i64 (n : Int)) (.int .i64 (n : Int))).run Tryd.prog W = .ok (.slice (some ⟨W.heap.size, 0, none⟩) n n) (W.alloc (.cells (Array.replicate n (.bool false)) 4)) := by
  obtain ⟨i, hi, hz, h1, h2⟩ := info_parts info_boolL
  intro W
  have h := run_make_rowN 30 4 i _ Tryd.underlying30 hi hz .i64 .i64 n n (Nat.le_refl _) (by rw [h2]; omega) (by omega) W
  rw [h1, Nat.mul_one, made_one _ _ rfl] at h
  exact h
theorem make_boolsL (n : Nat) (hn : n ≤ 100000) : ∀ W : World, (Instr.makeSlice 27 (.int .i64 (n : Int)) (.int .i64 (n : Int))).run Tryd.prog W = .ok (.slice (some ⟨W.heap.size, 0, none⟩) n n) (W.alloc (.cells (Array.replicate n (.slice none 0 0)) 30)) := by
  obtain ⟨i, hi, hz, h1, h2⟩ := info_parts info_boolsL
  intro W
  have h := run_make_rowN 27 30 i _ Tryd.underlying27 hi hz .i64 .i64 n n (Nat.le_refl _) (by rw [h2]; omega) (by omega) W
  rw [h1, Nat.mul_one, made_one _ _ rfl] at h
  exact h
theorem ML.new (w : World) (m : Nat) : ML (w.alloc (.cells (Array.replicate m (.slice none 0 0)) 30)) w.heap.size w.heap.size m m (fun _ => 0) (fun _ _ => false) := by
  refine ⟨?_, fun i h1 h2 => absurd h2 (by omega), fun i j h1 h2 => absurd h2 (by omega), Nat.le_refl _, fun i h1 h2 => absurd h2 (by omega)⟩
  rw [World.alloc_heap_new w, rep_rangeL]
  congr 2
  congr 1
  refine List.map_congr_left fun y hy => ?_
  have := List.mem_range.1 hy
  rw [if_neg (by omega)]
theorem _root_.Go.RowKit.Below.setLo {W W' : World} {lo b j : Nat} (h : Below lo W W') (hb : lo ≤ b) (v : Value) : Below lo W (W'.setCell ⟨b, j, none⟩ v) := h.setCell (p := ⟨b, j, none⟩) hb v
/-- Row x, k's successors laid up to j. -/
def rowJ (R : List DP.St) (x k j : Nat) (a b : Nat) : Bool := if a = x then (if b < j then DP.hbTo R x (k + 1) b else DP.hbTo R x k b) else DP.hb R a b
def rowK (R : List DP.St) (x k : Nat) (a b : Nat) : Bool := if a = x then DP.hbTo R x k b else DP.hb R a b
set_option maxRecDepth 100000 in
set_option maxHeartbeats 8000000 in
theorem refLess_any {w : World} {A : Option Addr} {m c : Nat} {R : List DP.St} (hR : Run w A m c R) (hm : m ≤ 14) :
    Calls Tryd.prog 12 #[.slice A m c] w fun e w' => ∃ gm gs, e = .returned (.slice (some ⟨gm, 0, none⟩) m m) ∧ ML w' w.heap.size gm m 0 gs (DP.hb R) ∧ Below w.heap.size w w' := by
  have hlen : R.length = m := hR.sl.len
  have hR14 : R.length ≤ 14 := by omega
  have HR := Lib.hid hR
  have HLEN := Lib.hid hlen
  have H14 := Lib.hid hR14
  have hmk := make_boolsL m (by omega)
  have hmk1 := make_boolL m (by omega)
  have HML := Lib.hid (ML.new w m)
  have HB0 := Lib.hid ((Below.refl w.heap.size w).alloc (Nat.le_refl _) (.cells (Array.replicate m (.slice none 0 0)) 30))
  clear hR hlen hR14
  go_enter Tryd.func12, Tryd.ntmps12
  go_wp2_with fail
  go_loopw [5] (fun i V => ∃ (t : Nat) (gs : Nat → Nat), i = .int .i64 ((t : Int) - 1) ∧ t ≤ m ∧ Hid (ML V w.heap.size w.heap.size m t gs (DP.hb R)) ∧ Hid (Below w.heap.size w V)) (fun i _ => (intOf i + 1).toNat)
  case atStart => exact ⟨m, _, rfl, Nat.le_refl _, HML.out.congr fun x y h1 h2 => absurd h2 (by omega), HB0.out⟩
  case round =>
    obtain ⟨t, gs, rfl, htm, hml, hbl⟩ := hrel
    obtain ⟨wo, hwo⟩ : ∃ W, W = wr := ⟨_, rfl⟩
    subst hwo
    rcases Nat.eq_zero_or_pos t with rfl | ht
    · go_wp2_with fail
      go_ret
      exact ⟨_, gs, rfl, hml.out, hbl.out⟩
    · obtain ⟨x, rfl⟩ : ∃ x, t = x + 1 := ⟨t - 1, by omega⟩
      have hxm : x < m := by omega
      have hxe : (((x + 1 : Nat) : Int) - 1) = (x : Int) := by omega
      rw [hxe]
      clear ht hxe
      obtain ⟨sx, hsx⟩ : ∃ s, R[x]? = some s := ⟨_, List.getElem?_eq_getElem (by rw [HLEN.out]; exact hxm)⟩
      have HSX := Lib.hid hsx
      clear hsx
      obtain ⟨U, hU⟩ : ∃ U, wo.alloc (.cells (Array.replicate m (.bool false)) 4) = U := ⟨_, rfl⟩
      have hmake := hml.out.make hxm hbl.out.size
      have hbm : Below w.heap.size w (U.setCell ⟨w.heap.size, x, none⟩ (.slice (some ⟨wo.heap.size, 0, none⟩) m m)) := by
        rw [← hU]
        exact (hbl.out.alloc hbl.out.size _).setLo (Nat.le_refl _) _
      rw [hU] at hmake
      have hcx : U.cell? ⟨w.heap.size, x, none⟩ = some (.slice none 0 0) := by
        rw [← hU]
        exact (Below.cell ((Below.refl wo.heap.size wo).alloc (Nat.le_refl _) _) (p := ⟨w.heap.size, x, none⟩) (heap_lt hml.out.top)).trans (hml.out.at0 (by omega) hxm)
      have hfx : U.frozen? ⟨w.heap.size, x, none⟩ = false := by
        have h := (Below.heap_alloc wo (.cells (Array.replicate m (.bool false)) 4) _ (heap_lt hml.out.top)).trans hml.out.top
        rw [hU] at h
        simp [World.frozen?, h]
      have HMK := Lib.hid hmake
      have HBM := Lib.hid hbm
      clear hmake hbm
      have HV0 : Hid (Below w.heap.size w (U.setCell ⟨w.heap.size, x, none⟩ (.slice (some ⟨wo.heap.size, 0, none⟩) m m))) := HBM
      go_wp2_with fail
      obtain ⟨g2, hg2⟩ : ∃ f, (fun j => if j = x then wo.heap.size else gs j) = f := ⟨_, rfl⟩
      rw [hg2] at HMK
      have hgx : wo.heap.size = g2 x := by rw [← hg2]; exact (if_pos rfl).symm
      go_loopw [6] (fun k V => ∃ q : Nat, k = .int .i64 (q : Int) ∧ x + 1 ≤ q ∧ q ≤ m ∧ Hid (ML V w.heap.size w.heap.size m x g2 (rowK R x q)) ∧ Hid (Below w.heap.size w V)) (fun k _ => m - (intOf k).toNat)
      case atStart =>
        subst hU
        exact ⟨x + 1, by go_num, Nat.le_refl _, htm, HMK.out.congr fun a b _ _ _ => by
          unfold rowK
          by_cases e : a = x
          · rw [if_pos e, if_pos e, DP.hbTo_start]
          · rw [if_neg e, if_neg e], HBM.out⟩
      case round =>
        obtain ⟨k, rfl, hxk, hkm, hml2, hbl2⟩ := hrel
        obtain ⟨wp, hwp⟩ : ∃ W, W = wr := ⟨_, rfl⟩
        subst hwp
        clear hU hcx hfx HMK HBM HV0 hml hbl hg2 hgx
        by_cases hk : k < m
        · obtain ⟨sk, hsk⟩ : ∃ s, R[k]? = some s := ⟨_, List.getElem?_eq_getElem (by rw [HLEN.out]; exact hk)⟩
          have hRV := HR.out.keep hbl2.out
          obtain ⟨g, hg, hgl, hda, hia⟩ := hRV.at_ HSX.out
          obtain ⟨g', hg', _, hdb, hib⟩ := hRV.at_ hsk
          rw [hg] at hg'
          injection hg' with hg'
          injection hg' with hg'
          subst hg'
          subst hg
          have HF : Hid (∀ V, Below wp.heap.size wp V → Calls Tryd.prog 29 #[stV sx, stV sk] V fun e w' => e = .returned (.bool (DP.dep sx sk)) ∧ Below V.heap.size V w') := fun V hV => refDep_any sx sk V (hia.keep hV) (hib.keep hV)
          obtain ⟨y, hy⟩ : ∃ y, DP.dep sx sk = y := ⟨_, rfl⟩
          rw [hy] at HF
          have HDEP : Hid (DP.depAt R x k = y) := (DP.depAt_eq HSX.out hsk).trans hy
          have HDA := Lib.hid hda
          have HDB := Lib.hid hdb
          clear hRV hda hdb hia hib hsk hy
          go_upto_region 10 with (fail)
          refine RgX.region 10 (fun i => ( 30 + i)) (fun ix_ => match ix_ with | 0 => .v (.slice (some ⟨g, 0, none⟩) m c) | 1 => .v (.int .i64 (x : Int)) | 2 => .v (.pointer (some ⟨g, x * 11, none⟩)) | 3 => .v (.agg #[.int .i64 sx.ev.k, .int .i64 sx.ev.n, .int .i64 sx.ev.a, .int .i64 sx.ev.m.c, .int .i64 sx.ev.m.h, .int .i64 sx.ev.m.t, .int .i64 sx.ev.m.i, .int .i64 sx.ev.m.p, .slice sx.qB sx.qs.length sx.qc, .bool sx.ob, .slice sx.sB sx.ms.length sx.sc]) | 4 => .v (.slice (some ⟨g, 0, none⟩) m c) | 5 => .v (.int .i64 (k : Int)) | 6 => .v (.pointer (some ⟨g, k * 11, none⟩)) | 7 => .v (.agg #[.int .i64 sk.ev.k, .int .i64 sk.ev.n, .int .i64 sk.ev.a, .int .i64 sk.ev.m.c, .int .i64 sk.ev.m.h, .int .i64 sk.ev.m.t, .int .i64 sk.ev.m.i, .int .i64 sk.ev.m.p, .slice sk.qB sk.qs.length sk.qc, .bool sk.ob, .slice sk.sB sk.ms.length sk.sc]) | 8 => .v (.bool y) | 9 => .v (.bool (!y)) | _ => .any) (by kernel_rfl) rfl (by kernel_rfl)  (fun i hi => by show ( 30 + i) < 76; (repeat' split) <;> omega) (fun i j hi hj => by show ( 30 + i) = ( 30 + j) → i = j; (repeat' split) <;> omega) ?step ?fin
          case step =>
            intro L_ A_ w3 ix op_ hI ho hdep
            have hi : ix < 10 := (Array.getElem?_eq_some_iff.1 ho).1
            have hcase : ix = 0 ∨ ix = 1 ∨ ix = 2 ∨ ix = 3 ∨ ix = 4 ∨ ix = 5 ∨ ix = 6 ∨ ix = 7 ∨ ix = 8 ∨ ix = 9 := by omega
            have hh := hI.held
            clear hi
            rcases hcase with rfl | rfl | rfl | rfl | rfl | rfl | rfl | rfl | rfl | rfl
            · simp only [List.getElem?_toArray, List.getElem?_cons_zero, Option.some.injEq] at ho
              subst ho
              refine ⟨rfl, ?_⟩
              have e0 : A_.tmps[0]?.getD undef = .slice (some ⟨g, 0, none⟩) m c := by rw [hI.low 0 (by decide)]; rfl
              clear hI hdep
              exact .run rfl (.slice (some ⟨g, 0, none⟩) m c) w3 (by simp [execOp, go_sem, Act.eval, e0]) (Below.refl _ _) rfl
            · simp only [List.getElem?_toArray, List.getElem?_cons_succ, List.getElem?_cons_zero, Option.some.injEq] at ho
              subst ho
              refine ⟨rfl, ?_⟩
              have e5 : A_.tmps[5]?.getD undef = .int .i64 (x : Int) := by rw [hI.low 5 (by decide)]; rfl
              clear hI hdep
              exact .run rfl (.int .i64 (x : Int)) w3 (by simp [execOp, go_sem, Act.eval, e5]) (Below.refl _ _) rfl
            · simp only [List.getElem?_toArray, List.getElem?_cons_succ, List.getElem?_cons_zero, Option.some.injEq] at ho
              subst ho
              refine ⟨rfl, ?_⟩
              have e30 : A_.tmps[30]?.getD undef = .slice (some ⟨g, 0, none⟩) m c := getD_of (hI.val_ (i := 0) rfl rfl (by decide) (hdep ⟨0, .data⟩ (by simp) rfl))
              have e31 : A_.tmps[31]?.getD undef = .int .i64 (x : Int) := getD_of (hI.val_ (i := 1) rfl rfl (by decide) (hdep ⟨1, .data⟩ (by simp) rfl))
              clear hI hdep
              exact .run rfl (.pointer (some ⟨g, x * 11, none⟩)) w3 (by simp [execOp, go_sem, Act.eval, e30, e31]; omega) (Below.refl _ _) rfl
            · simp only [List.getElem?_toArray, List.getElem?_cons_succ, List.getElem?_cons_zero, Option.some.injEq] at ho
              subst ho
              refine ⟨rfl, ?_⟩
              have e32 : A_.tmps[32]?.getD undef = .pointer (some ⟨g, x * 11, none⟩) := getD_of (hI.val_ (i := 2) rfl rfl (by decide) (hdep ⟨2, .data⟩ (by simp) rfl))
              clear hI hdep
              obtain ⟨d0, d1, d2, d3, d4, d5, d6, d7, d8, d9, d10⟩ := HDA.out.keep hgl hh
              exact .run rfl (.agg #[.int .i64 sx.ev.k, .int .i64 sx.ev.n, .int .i64 sx.ev.a, .int .i64 sx.ev.m.c, .int .i64 sx.ev.m.h, .int .i64 sx.ev.m.t, .int .i64 sx.ev.m.i, .int .i64 sx.ev.m.p, .slice sx.qB sx.qs.length sx.qc, .bool sx.ob, .slice sx.sB sx.ms.length sx.sc]) w3 (by simp [execOp, go_sem, Act.eval, e32, d0, d1, d2, d3, d4, d5, d6, d7, d8, d9, d10]) (Below.refl _ _) rfl
            · simp only [List.getElem?_toArray, List.getElem?_cons_succ, List.getElem?_cons_zero, Option.some.injEq] at ho
              subst ho
              refine ⟨rfl, ?_⟩
              have e0 : A_.tmps[0]?.getD undef = .slice (some ⟨g, 0, none⟩) m c := by rw [hI.low 0 (by decide)]; rfl
              clear hI hdep
              exact .run rfl (.slice (some ⟨g, 0, none⟩) m c) w3 (by simp [execOp, go_sem, Act.eval, e0]) (Below.refl _ _) rfl
            · simp only [List.getElem?_toArray, List.getElem?_cons_succ, List.getElem?_cons_zero, Option.some.injEq] at ho
              subst ho
              refine ⟨rfl, ?_⟩
              have e6 : A_.tmps[6]?.getD undef = .int .i64 (k : Int) := by rw [hI.low 6 (by decide)]; rfl
              clear hI hdep
              exact .run rfl (.int .i64 (k : Int)) w3 (by simp [execOp, go_sem, Act.eval, e6]) (Below.refl _ _) rfl
            · simp only [List.getElem?_toArray, List.getElem?_cons_succ, List.getElem?_cons_zero, Option.some.injEq] at ho
              subst ho
              refine ⟨rfl, ?_⟩
              have e34 : A_.tmps[34]?.getD undef = .slice (some ⟨g, 0, none⟩) m c := getD_of (hI.val_ (i := 4) rfl rfl (by decide) (hdep ⟨4, .data⟩ (by simp) rfl))
              have e35 : A_.tmps[35]?.getD undef = .int .i64 (k : Int) := getD_of (hI.val_ (i := 5) rfl rfl (by decide) (hdep ⟨5, .data⟩ (by simp) rfl))
              clear hI hdep
              exact .run rfl (.pointer (some ⟨g, k * 11, none⟩)) w3 (by simp [execOp, go_sem, Act.eval, e34, e35]; omega) (Below.refl _ _) rfl
            · simp only [List.getElem?_toArray, List.getElem?_cons_succ, List.getElem?_cons_zero, Option.some.injEq] at ho
              subst ho
              refine ⟨rfl, ?_⟩
              have e36 : A_.tmps[36]?.getD undef = .pointer (some ⟨g, k * 11, none⟩) := getD_of (hI.val_ (i := 6) rfl rfl (by decide) (hdep ⟨6, .data⟩ (by simp) rfl))
              clear hI hdep
              obtain ⟨d0, d1, d2, d3, d4, d5, d6, d7, d8, d9, d10⟩ := HDB.out.keep hgl hh
              exact .run rfl (.agg #[.int .i64 sk.ev.k, .int .i64 sk.ev.n, .int .i64 sk.ev.a, .int .i64 sk.ev.m.c, .int .i64 sk.ev.m.h, .int .i64 sk.ev.m.t, .int .i64 sk.ev.m.i, .int .i64 sk.ev.m.p, .slice sk.qB sk.qs.length sk.qc, .bool sk.ob, .slice sk.sB sk.ms.length sk.sc]) w3 (by simp [execOp, go_sem, Act.eval, e36, d0, d1, d2, d3, d4, d5, d6, d7, d8, d9, d10]) (Below.refl _ _) rfl
            · simp only [List.getElem?_toArray, List.getElem?_cons_succ, List.getElem?_cons_zero, Option.some.injEq] at ho
              subst ho
              refine ⟨rfl, ?_⟩
              have e33 : A_.tmps[33]?.getD undef = .agg #[.int .i64 sx.ev.k, .int .i64 sx.ev.n, .int .i64 sx.ev.a, .int .i64 sx.ev.m.c, .int .i64 sx.ev.m.h, .int .i64 sx.ev.m.t, .int .i64 sx.ev.m.i, .int .i64 sx.ev.m.p, .slice sx.qB sx.qs.length sx.qc, .bool sx.ob, .slice sx.sB sx.ms.length sx.sc] := getD_of (hI.val_ (i := 3) rfl rfl (by decide) (hdep ⟨3, .data⟩ (by simp) rfl))
              have e37 : A_.tmps[37]?.getD undef = .agg #[.int .i64 sk.ev.k, .int .i64 sk.ev.n, .int .i64 sk.ev.a, .int .i64 sk.ev.m.c, .int .i64 sk.ev.m.h, .int .i64 sk.ev.m.t, .int .i64 sk.ev.m.i, .int .i64 sk.ev.m.p, .slice sk.qB sk.qs.length sk.qc, .bool sk.ob, .slice sk.sB sk.ms.length sk.sc] := getD_of (hI.val_ (i := 7) rfl rfl (by decide) (hdep ⟨7, .data⟩ (by simp) rfl))
              clear hI hdep
              exact .call rfl 29 #[.agg #[.int .i64 sx.ev.k, .int .i64 sx.ev.n, .int .i64 sx.ev.a, .int .i64 sx.ev.m.c, .int .i64 sx.ev.m.h, .int .i64 sx.ev.m.t, .int .i64 sx.ev.m.i, .int .i64 sx.ev.m.p, .slice sx.qB sx.qs.length sx.qc, .bool sx.ob, .slice sx.sB sx.ms.length sx.sc], .agg #[.int .i64 sk.ev.k, .int .i64 sk.ev.n, .int .i64 sk.ev.a, .int .i64 sk.ev.m.c, .int .i64 sk.ev.m.h, .int .i64 sk.ev.m.t, .int .i64 sk.ev.m.i, .int .i64 sk.ev.m.p, .slice sk.qB sk.qs.length sk.qc, .bool sk.ob, .slice sk.sB sk.ms.length sk.sc]] (by simp [go_sem, Act.eval, e33, e37]) ((HF.out w3 hh).mono fun _ _ ⟨h1_, h2_⟩ => ⟨⟨_, h1_, rfl⟩, h2_⟩)
            · simp only [List.getElem?_toArray, List.getElem?_cons_succ, List.getElem?_cons_zero, Option.some.injEq] at ho
              subst ho
              refine ⟨rfl, ?_⟩
              have e38 : A_.tmps[38]?.getD undef = .bool y := getD_of (hI.val_ (i := 8) rfl rfl (by decide) (hdep ⟨8, .data⟩ (by simp) rfl))
              clear hI hdep
              exact .run rfl (.bool (!y)) w3 (by simp [execOp, go_sem, Act.eval, e38]) (Below.refl _ _) rfl
          case fin =>
          intro A_ w3 hs hd hlow hS hok
          obtain rfl : A_ = ⟨#[.slice (some ⟨g, 0, none⟩) m c, undef, .slice none 0 0, .int .i64 (m : Int), .slice (some ⟨w.heap.size, 0, none⟩) m m, .int .i64 (x : Int), .int .i64 (k : Int), u7, .slice (some ⟨g, 0, none⟩) m c, .int .i64 (m : Int), .int .i64 (m : Int), .slice (some ⟨w.heap.size, 0, none⟩) m m, .int .i64 (m : Int), .int .i64 ((m : Int) - 1), .int .i64 (x : Int), .bool true, u16, u17, .slice (some ⟨w.heap.size, 0, none⟩) m m, .int .i64 (x : Int), .int .i64 (m : Int), .slice (some ⟨wo.heap.size, 0, none⟩) m m, .pointer (some { block := w.heap.size, off := x }), .int .i64 (x : Int), .int .i64 ((x : Int) + 1), .int .i64 (k : Int), .int .i64 (m : Int), .bool true, u28, u29, .slice (some ⟨g, 0, none⟩) m c, .int .i64 (x : Int), .pointer (some ⟨g, x * 11, none⟩), .agg #[.int .i64 sx.ev.k, .int .i64 sx.ev.n, .int .i64 sx.ev.a, .int .i64 sx.ev.m.c, .int .i64 sx.ev.m.h, .int .i64 sx.ev.m.t, .int .i64 sx.ev.m.i, .int .i64 sx.ev.m.p, .slice sx.qB sx.qs.length sx.qc, .bool sx.ob, .slice sx.sB sx.ms.length sx.sc], .slice (some ⟨g, 0, none⟩) m c, .int .i64 (k : Int), .pointer (some ⟨g, k * 11, none⟩), .agg #[.int .i64 sk.ev.k, .int .i64 sk.ev.n, .int .i64 sk.ev.a, .int .i64 sk.ev.m.c, .int .i64 sk.ev.m.h, .int .i64 sk.ev.m.t, .int .i64 sk.ev.m.i, .int .i64 sk.ev.m.p, .slice sk.qB sk.qs.length sk.qc, .bool sk.ob, .slice sk.sB sk.ms.length sk.sc], .bool y, .bool (!y), u40, u41, u42, u43, u44, u45, u46, u47, u48, u49, u50, u51, u52, u53, u54, u55, u56, u57, u58, u59, u60, u61, u62, u63, u64, u65, u66, u67, u68, u69, u70, u71, u72, u73, u74, undef], []⟩ := act_ext hd hs (fun j hj => match j, hj with | 0, _ => (hlow 0 (by decide)).trans rfl | 1, _ => (hlow 1 (by decide)).trans rfl | 2, _ => (hlow 2 (by decide)).trans rfl | 3, _ => (hlow 3 (by decide)).trans rfl | 4, _ => (hlow 4 (by decide)).trans rfl | 5, _ => (hlow 5 (by decide)).trans rfl | 6, _ => (hlow 6 (by decide)).trans rfl | 7, _ => (hlow 7 (by decide)).trans rfl | 8, _ => (hlow 8 (by decide)).trans rfl | 9, _ => (hlow 9 (by decide)).trans rfl | 10, _ => (hlow 10 (by decide)).trans rfl | 11, _ => (hlow 11 (by decide)).trans rfl | 12, _ => (hlow 12 (by decide)).trans rfl | 13, _ => (hlow 13 (by decide)).trans rfl | 14, _ => (hlow 14 (by decide)).trans rfl | 15, _ => (hlow 15 (by decide)).trans rfl | 16, _ => (hlow 16 (by decide)).trans rfl | 17, _ => (hlow 17 (by decide)).trans rfl | 18, _ => (hlow 18 (by decide)).trans rfl | 19, _ => (hlow 19 (by decide)).trans rfl | 20, _ => (hlow 20 (by decide)).trans rfl | 21, _ => (hlow 21 (by decide)).trans rfl | 22, _ => (hlow 22 (by decide)).trans rfl | 23, _ => (hlow 23 (by decide)).trans rfl | 24, _ => (hlow 24 (by decide)).trans rfl | 25, _ => (hlow 25 (by decide)).trans rfl | 26, _ => (hlow 26 (by decide)).trans rfl | 27, _ => (hlow 27 (by decide)).trans rfl | 28, _ => (hlow 28 (by decide)).trans rfl | 29, _ => (hlow 29 (by decide)).trans rfl | 30, _ => RgX.val_at (hok 0 30 _ (by decide) rfl rfl) | 31, _ => RgX.val_at (hok 1 31 _ (by decide) rfl rfl) | 32, _ => RgX.val_at (hok 2 32 _ (by decide) rfl rfl) | 33, _ => RgX.val_at (hok 3 33 _ (by decide) rfl rfl) | 34, _ => RgX.val_at (hok 4 34 _ (by decide) rfl rfl) | 35, _ => RgX.val_at (hok 5 35 _ (by decide) rfl rfl) | 36, _ => RgX.val_at (hok 6 36 _ (by decide) rfl rfl) | 37, _ => RgX.val_at (hok 7 37 _ (by decide) rfl rfl) | 38, _ => RgX.val_at (hok 8 38 _ (by decide) rfl rfl) | 39, _ => RgX.val_at (hok 9 39 _ (by decide) rfl rfl) | 40, _ => (hlow 40 (by decide)).trans rfl | 41, _ => (hlow 41 (by decide)).trans rfl | 42, _ => (hlow 42 (by decide)).trans rfl | 43, _ => (hlow 43 (by decide)).trans rfl | 44, _ => (hlow 44 (by decide)).trans rfl | 45, _ => (hlow 45 (by decide)).trans rfl | 46, _ => (hlow 46 (by decide)).trans rfl | 47, _ => (hlow 47 (by decide)).trans rfl | 48, _ => (hlow 48 (by decide)).trans rfl | 49, _ => (hlow 49 (by decide)).trans rfl | 50, _ => (hlow 50 (by decide)).trans rfl | 51, _ => (hlow 51 (by decide)).trans rfl | 52, _ => (hlow 52 (by decide)).trans rfl | 53, _ => (hlow 53 (by decide)).trans rfl | 54, _ => (hlow 54 (by decide)).trans rfl | 55, _ => (hlow 55 (by decide)).trans rfl | 56, _ => (hlow 56 (by decide)).trans rfl | 57, _ => (hlow 57 (by decide)).trans rfl | 58, _ => (hlow 58 (by decide)).trans rfl | 59, _ => (hlow 59 (by decide)).trans rfl | 60, _ => (hlow 60 (by decide)).trans rfl | 61, _ => (hlow 61 (by decide)).trans rfl | 62, _ => (hlow 62 (by decide)).trans rfl | 63, _ => (hlow 63 (by decide)).trans rfl | 64, _ => (hlow 64 (by decide)).trans rfl | 65, _ => (hlow 65 (by decide)).trans rfl | 66, _ => (hlow 66 (by decide)).trans rfl | 67, _ => (hlow 67 (by decide)).trans rfl | 68, _ => (hlow 68 (by decide)).trans rfl | 69, _ => (hlow 69 (by decide)).trans rfl | 70, _ => (hlow 70 (by decide)).trans rfl | 71, _ => (hlow 71 (by decide)).trans rfl | 72, _ => (hlow 72 (by decide)).trans rfl | 73, _ => (hlow 73 (by decide)).trans rfl | 74, _ => (hlow 74 (by decide)).trans rfl | 75, _ => (hlow 75 (by decide)).trans rfl | n + 76, h => absurd h (by show ¬ n + 76 < 76; omega))
          clear hs hd hlow hok 
          have HM3 := Lib.hid (hml2.out.keep hS)
          have HB3 := Lib.hid (hbl2.out.trans (hS.mono hbl2.out.size))
          clear HF HDA HDB hS hml2 hbl2 hgl
          cases y
          · go_wp2_with fail
            go_roundw
            case rel => exact ⟨k + 1, by go_num, by omega, by omega, HM3.out.congr fun a b _ _ _ => by
              unfold rowK
              rw [DP.hbTo_succ R x k b (by omega), HDEP.out, Bool.false_and, Bool.or_false], HB3.out⟩
            case measure => simp [intOf]; omega
          · have hc1 := HM3.out.at_ (Nat.le_refl _) hxm
            have hc2 := HM3.out.bit (Nat.le_refl _) hxm hk
            have hf2 := HM3.out.free (Nat.le_refl _) hxm k
            go_wp2_with fail
            clear hc1 hc2 hf2
            go_loopw [7] (fun j V => ∃ q : Nat, j = .int .i64 (q : Int) ∧ k + 1 ≤ q ∧ q ≤ m ∧ Hid (ML V w.heap.size w.heap.size m x g2 (rowJ R x k q)) ∧ Hid (Below w.heap.size w V)) (fun j _ => m - (intOf j).toNat)
            case atStart => exact ⟨k + 1, by go_num, Nat.le_refl _, by omega, (HM3.out.set (Nat.le_refl _) hxm true).congr (fun a b _ _ hbm => by
              unfold rowJ rowK
              by_cases e : a = x
              · rw [if_pos e]
                by_cases e2 : b = k
                · subst e2
                  rw [if_pos ⟨e, rfl⟩, if_pos (by omega), DP.hbTo_succ R x b b (by omega), HDEP.out]
                  simp
                · rw [if_neg (fun h => e2 h.2)]
                  by_cases e3 : b < k + 1
                  · rw [if_pos e3, if_pos e, DP.hbTo_succ R x k b (by omega), HDEP.out]
                    have h1 : DP.hb R k b = false := by
                      cases h : DP.hb R k b
                      · rfl
                      · have := (DP.hb_lt H14.out h).1
                        omega
                    simp [h1]
                    intro e4
                    exact absurd e4.symm e2
                  · rw [if_neg e3, if_pos e]
              · rw [if_neg (fun h => e h.1), if_neg e, if_neg e]), HB3.out.setLo (HM3.out.lgs x (Nat.le_refl _) hxm) _⟩
            case round =>
              obtain ⟨j, rfl, hkj, hjm, hml4, hbl4⟩ := hrel
              obtain ⟨wq, hwq⟩ : ∃ W, W = wr := ⟨_, rfl⟩
              subst hwq
              clear HM3 HB3
              by_cases hj : j < m
              · obtain ⟨b1, hb1⟩ : ∃ b, DP.hbTo R x k j = b := ⟨_, rfl⟩
                obtain ⟨b2, hb2⟩ : ∃ b, DP.hb R k j = b := ⟨_, rfl⟩
                have HC : Hid (∀ V, Below wq.heap.size wq V → V.cell? ⟨w.heap.size, x, none⟩ = some (.slice (some ⟨g2 x, 0, none⟩) m m) ∧ V.cell? ⟨w.heap.size, k, none⟩ = some (.slice (some ⟨g2 k, 0, none⟩) m m) ∧ V.cell? ⟨g2 x, j, none⟩ = some (.bool b1) ∧ V.cell? ⟨g2 k, j, none⟩ = some (.bool b2) ∧ V.frozen? ⟨g2 x, j, none⟩ = false) := fun V hV => by
                  have h := hml4.out.keep hV
                  refine ⟨h.at_ (Nat.le_refl _) hxm, h.at_ (by omega) hk, ?_, ?_, h.free (Nat.le_refl _) hxm j⟩
                  · rw [h.bit (Nat.le_refl _) hxm hj]
                    unfold rowJ
                    rw [if_pos rfl, if_neg (by omega), hb1]
                  · rw [h.bit (by omega) hk hj]
                    unfold rowJ
                    rw [if_neg (by omega), hb2]
                have HNX : Hid (∀ a b, (if a = x ∧ b = j then (b1 || b2) else rowJ R x k j a b) = rowJ R x k (j + 1) a b) := fun a b => by
                  unfold rowJ
                  by_cases e : a = x
                  · rw [if_pos e, if_pos e]
                    by_cases e2 : b = j
                    · rw [if_pos ⟨e, e2⟩, if_pos (by omega), e2, DP.hbTo_succ R x k j (by omega), HDEP.out, hb1, hb2]
                      have : ¬ k = j := by omega
                      simp [this]
                    · rw [if_neg (fun h => e2 h.2)]
                      by_cases e3 : b < j
                      · rw [if_pos e3, if_pos (by omega)]
                      · rw [if_neg e3, if_neg (by omega)]
                  · rw [if_neg (fun h => e h.1), if_neg e, if_neg e]
                have hst : ∀ V, Below wq.heap.size wq V → ∀ b, b = (b1 || b2) → ML (V.setCell ⟨g2 x, j, none⟩ (.bool b)) w.heap.size w.heap.size m x g2 (rowJ R x k (j + 1)) ∧ Below w.heap.size w (V.setCell ⟨g2 x, j, none⟩ (.bool b)) := fun V hV b hb => by
                  subst hb
                  exact ⟨((hml4.out.keep hV).set (Nat.le_refl _) hxm (b1 || b2)).congr fun p q _ _ _ => HNX.out p q, (hbl4.out.trans (hV.mono hbl4.out.size)).setLo (hml4.out.lgs x (Nat.le_refl _) hxm) _⟩
                have HST := Lib.hid hst
                clear hst HNX hml4 hbl4 hb1 hb2
                cases b1
                · go_upto_region 15 with (fail)
                  refine RgX.tail 22 (fun i => ( 53 + i)) (fun ix_ => match ix_ with | 0 => .v (.slice (some ⟨w.heap.size, 0, none⟩) m m) | 1 => .v (.int .i64 (x : Int)) | 2 => .v (.pointer (some ⟨w.heap.size, x, none⟩)) | 3 => .v (.slice (some ⟨g2 x, 0, none⟩) m m) | 4 => .v (.int .i64 (j : Int)) | 5 => .v (.slice (some ⟨w.heap.size, 0, none⟩) m m) | 6 => .v (.int .i64 (x : Int)) | 7 => .v (.pointer (some ⟨w.heap.size, x, none⟩)) | 8 => .v (.slice (some ⟨g2 x, 0, none⟩) m m) | 9 => .v (.int .i64 (j : Int)) | 10 => .v (.pointer (some ⟨g2 x, j, none⟩)) | 11 => .v (.bool false) | 12 => .v (.bool false) | 13 => .v (.slice (some ⟨w.heap.size, 0, none⟩) m m) | 14 => .v (.int .i64 (k : Int)) | 15 => .v (.pointer (some ⟨w.heap.size, k, none⟩)) | 16 => .v (.slice (some ⟨g2 k, 0, none⟩) m m) | 17 => .v (.int .i64 (j : Int)) | 18 => .v (.pointer (some ⟨g2 k, j, none⟩)) | 19 => .v (.bool b2) | 20 => .v (.bool b2) | 21 => .v (.pointer (some ⟨g2 x, j, none⟩)) | _ => .any) _ (by kernel_rfl) rfl rfl (by kernel_rfl) (by kernel_rfl) (fun i hi => by show ( 53 + i) < 76; (repeat' split) <;> omega) (fun i j hi hj => by show ( 53 + i) = ( 53 + j) → i = j; (repeat' split) <;> omega) ?step ?fin
                  case step =>
                    intro L_ A_ w3 ix op_ hi hI ho hdep
                    have hcase : ix = 0 ∨ ix = 1 ∨ ix = 2 ∨ ix = 3 ∨ ix = 4 ∨ ix = 5 ∨ ix = 6 ∨ ix = 7 ∨ ix = 8 ∨ ix = 9 ∨ ix = 10 ∨ ix = 11 ∨ ix = 12 ∨ ix = 13 ∨ ix = 14 ∨ ix = 15 ∨ ix = 16 ∨ ix = 17 ∨ ix = 18 ∨ ix = 19 ∨ ix = 20 ∨ ix = 21 := by omega
                    have hh := hI.held
                    clear hi
                    rcases hcase with rfl | rfl | rfl | rfl | rfl | rfl | rfl | rfl | rfl | rfl | rfl | rfl | rfl | rfl | rfl | rfl | rfl | rfl | rfl | rfl | rfl | rfl
                    · simp only [List.getElem?_toArray, List.getElem?_cons_zero, Option.some.injEq] at ho
                      subst ho
                      refine ⟨rfl, ?_⟩
                      have e4 : A_.tmps[4]?.getD undef = .slice (some ⟨w.heap.size, 0, none⟩) m m := by rw [hI.low 4 (by decide)]; rfl
                      clear hI hdep
                      exact .run rfl (.slice (some ⟨w.heap.size, 0, none⟩) m m) w3 (by simp [execOp, go_sem, Act.eval, e4]) (Below.refl _ _) rfl
                    · simp only [List.getElem?_toArray, List.getElem?_cons_succ, List.getElem?_cons_zero, Option.some.injEq] at ho
                      subst ho
                      refine ⟨rfl, ?_⟩
                      have e5 : A_.tmps[5]?.getD undef = .int .i64 (x : Int) := by rw [hI.low 5 (by decide)]; rfl
                      clear hI hdep
                      exact .run rfl (.int .i64 (x : Int)) w3 (by simp [execOp, go_sem, Act.eval, e5]) (Below.refl _ _) rfl
                    · simp only [List.getElem?_toArray, List.getElem?_cons_succ, List.getElem?_cons_zero, Option.some.injEq] at ho
                      subst ho
                      refine ⟨rfl, ?_⟩
                      have e53 : A_.tmps[53]?.getD undef = .slice (some ⟨w.heap.size, 0, none⟩) m m := getD_of (hI.val_ (i := 0) rfl rfl (by decide) (hdep ⟨0, .data⟩ (by simp) rfl))
                      have e54 : A_.tmps[54]?.getD undef = .int .i64 (x : Int) := getD_of (hI.val_ (i := 1) rfl rfl (by decide) (hdep ⟨1, .data⟩ (by simp) rfl))
                      clear hI hdep
                      exact .run rfl (.pointer (some ⟨w.heap.size, x, none⟩)) w3 (by simp [execOp, go_sem, Act.eval, e53, e54]; try omega) (Below.refl _ _) rfl
                    · simp only [List.getElem?_toArray, List.getElem?_cons_succ, List.getElem?_cons_zero, Option.some.injEq] at ho
                      subst ho
                      refine ⟨rfl, ?_⟩
                      have e55 : A_.tmps[55]?.getD undef = .pointer (some ⟨w.heap.size, x, none⟩) := getD_of (hI.val_ (i := 2) rfl rfl (by decide) (hdep ⟨2, .data⟩ (by simp) rfl))
                      clear hI hdep
                      obtain ⟨d1, d2, d3, d4, _⟩ := HC.out w3 hh
                      exact .run rfl (.slice (some ⟨g2 x, 0, none⟩) m m) w3 (by simp [execOp, go_sem, Act.eval, e55, d1]) (Below.refl _ _) rfl
                    · simp only [List.getElem?_toArray, List.getElem?_cons_succ, List.getElem?_cons_zero, Option.some.injEq] at ho
                      subst ho
                      refine ⟨rfl, ?_⟩
                      have e7 : A_.tmps[7]?.getD undef = .int .i64 (j : Int) := by rw [hI.low 7 (by decide)]; rfl
                      clear hI hdep
                      exact .run rfl (.int .i64 (j : Int)) w3 (by simp [execOp, go_sem, Act.eval, e7]) (Below.refl _ _) rfl
                    · simp only [List.getElem?_toArray, List.getElem?_cons_succ, List.getElem?_cons_zero, Option.some.injEq] at ho
                      subst ho
                      refine ⟨rfl, ?_⟩
                      have e4 : A_.tmps[4]?.getD undef = .slice (some ⟨w.heap.size, 0, none⟩) m m := by rw [hI.low 4 (by decide)]; rfl
                      clear hI hdep
                      exact .run rfl (.slice (some ⟨w.heap.size, 0, none⟩) m m) w3 (by simp [execOp, go_sem, Act.eval, e4]) (Below.refl _ _) rfl
                    · simp only [List.getElem?_toArray, List.getElem?_cons_succ, List.getElem?_cons_zero, Option.some.injEq] at ho
                      subst ho
                      refine ⟨rfl, ?_⟩
                      have e5 : A_.tmps[5]?.getD undef = .int .i64 (x : Int) := by rw [hI.low 5 (by decide)]; rfl
                      clear hI hdep
                      exact .run rfl (.int .i64 (x : Int)) w3 (by simp [execOp, go_sem, Act.eval, e5]) (Below.refl _ _) rfl
                    · simp only [List.getElem?_toArray, List.getElem?_cons_succ, List.getElem?_cons_zero, Option.some.injEq] at ho
                      subst ho
                      refine ⟨rfl, ?_⟩
                      have e58 : A_.tmps[58]?.getD undef = .slice (some ⟨w.heap.size, 0, none⟩) m m := getD_of (hI.val_ (i := 5) rfl rfl (by decide) (hdep ⟨5, .data⟩ (by simp) rfl))
                      have e59 : A_.tmps[59]?.getD undef = .int .i64 (x : Int) := getD_of (hI.val_ (i := 6) rfl rfl (by decide) (hdep ⟨6, .data⟩ (by simp) rfl))
                      clear hI hdep
                      exact .run rfl (.pointer (some ⟨w.heap.size, x, none⟩)) w3 (by simp [execOp, go_sem, Act.eval, e58, e59]; try omega) (Below.refl _ _) rfl
                    · simp only [List.getElem?_toArray, List.getElem?_cons_succ, List.getElem?_cons_zero, Option.some.injEq] at ho
                      subst ho
                      refine ⟨rfl, ?_⟩
                      have e60 : A_.tmps[60]?.getD undef = .pointer (some ⟨w.heap.size, x, none⟩) := getD_of (hI.val_ (i := 7) rfl rfl (by decide) (hdep ⟨7, .data⟩ (by simp) rfl))
                      clear hI hdep
                      obtain ⟨d1, d2, d3, d4, _⟩ := HC.out w3 hh
                      exact .run rfl (.slice (some ⟨g2 x, 0, none⟩) m m) w3 (by simp [execOp, go_sem, Act.eval, e60, d1]) (Below.refl _ _) rfl
                    · simp only [List.getElem?_toArray, List.getElem?_cons_succ, List.getElem?_cons_zero, Option.some.injEq] at ho
                      subst ho
                      refine ⟨rfl, ?_⟩
                      have e7 : A_.tmps[7]?.getD undef = .int .i64 (j : Int) := by rw [hI.low 7 (by decide)]; rfl
                      clear hI hdep
                      exact .run rfl (.int .i64 (j : Int)) w3 (by simp [execOp, go_sem, Act.eval, e7]) (Below.refl _ _) rfl
                    · simp only [List.getElem?_toArray, List.getElem?_cons_succ, List.getElem?_cons_zero, Option.some.injEq] at ho
                      subst ho
                      refine ⟨rfl, ?_⟩
                      have e61 : A_.tmps[61]?.getD undef = .slice (some ⟨g2 x, 0, none⟩) m m := getD_of (hI.val_ (i := 8) rfl rfl (by decide) (hdep ⟨8, .data⟩ (by simp) rfl))
                      have e62 : A_.tmps[62]?.getD undef = .int .i64 (j : Int) := getD_of (hI.val_ (i := 9) rfl rfl (by decide) (hdep ⟨9, .data⟩ (by simp) rfl))
                      clear hI hdep
                      exact .run rfl (.pointer (some ⟨g2 x, j, none⟩)) w3 (by simp [execOp, go_sem, Act.eval, e61, e62]; try omega) (Below.refl _ _) rfl
                    · simp only [List.getElem?_toArray, List.getElem?_cons_succ, List.getElem?_cons_zero, Option.some.injEq] at ho
                      subst ho
                      refine ⟨rfl, ?_⟩
                      have e63 : A_.tmps[63]?.getD undef = .pointer (some ⟨g2 x, j, none⟩) := getD_of (hI.val_ (i := 10) rfl rfl (by decide) (hdep ⟨10, .data⟩ (by simp) rfl))
                      clear hI hdep
                      obtain ⟨d1, d2, d3, d4, _⟩ := HC.out w3 hh
                      exact .run rfl (.bool false) w3 (by simp [execOp, go_sem, Act.eval, e63, d3]) (Below.refl _ _) rfl
                    · simp only [List.getElem?_toArray, List.getElem?_cons_succ, List.getElem?_cons_zero, Option.some.injEq] at ho
                      subst ho
                      refine ⟨rfl, ?_⟩
                      have e64 : A_.tmps[64]?.getD undef = .bool false := getD_of (hI.val_ (i := 11) rfl rfl (by decide) (hdep ⟨11, .data⟩ (by simp) rfl))
                      clear hI hdep
                      exact .run rfl (.bool false) w3 (by simp [execOp, go_sem, Act.eval, e64]) (Below.refl _ _) rfl
                    · simp only [List.getElem?_toArray, List.getElem?_cons_succ, List.getElem?_cons_zero, Option.some.injEq] at ho
                      subst ho
                      refine ⟨rfl, ?_⟩
                      have q65 : A_.tmps[65]? = some (.bool false) := hI.val_ (i := 12) rfl rfl (by decide) (hdep ⟨12, .guard⟩ (by simp) rfl)
                      have e4 : A_.tmps[4]?.getD undef = .slice (some ⟨w.heap.size, 0, none⟩) m m := by rw [hI.low 4 (by decide)]; rfl
                      clear hI hdep
                      exact .run ((wanted_some rfl rfl q65).trans rfl) (.slice (some ⟨w.heap.size, 0, none⟩) m m) w3 (by simp [execOp, go_sem, Act.eval, e4]) (Below.refl _ _) rfl
                    · simp only [List.getElem?_toArray, List.getElem?_cons_succ, List.getElem?_cons_zero, Option.some.injEq] at ho
                      subst ho
                      refine ⟨rfl, ?_⟩
                      have q65 : A_.tmps[65]? = some (.bool false) := hI.val_ (i := 12) rfl rfl (by decide) (hdep ⟨12, .guard⟩ (by simp) rfl)
                      have e6 : A_.tmps[6]?.getD undef = .int .i64 (k : Int) := by rw [hI.low 6 (by decide)]; rfl
                      clear hI hdep
                      exact .run ((wanted_some rfl rfl q65).trans rfl) (.int .i64 (k : Int)) w3 (by simp [execOp, go_sem, Act.eval, e6]) (Below.refl _ _) rfl
                    · simp only [List.getElem?_toArray, List.getElem?_cons_succ, List.getElem?_cons_zero, Option.some.injEq] at ho
                      subst ho
                      refine ⟨rfl, ?_⟩
                      have q65 : A_.tmps[65]? = some (.bool false) := hI.val_ (i := 12) rfl rfl (by decide) (hdep ⟨12, .guard⟩ (by simp) rfl)
                      have e66 : A_.tmps[66]?.getD undef = .slice (some ⟨w.heap.size, 0, none⟩) m m := getD_of (hI.val_ (i := 13) rfl rfl (by decide) (hdep ⟨13, .data⟩ (by simp) rfl))
                      have e67 : A_.tmps[67]?.getD undef = .int .i64 (k : Int) := getD_of (hI.val_ (i := 14) rfl rfl (by decide) (hdep ⟨14, .data⟩ (by simp) rfl))
                      clear hI hdep
                      exact .run ((wanted_some rfl rfl q65).trans rfl) (.pointer (some ⟨w.heap.size, k, none⟩)) w3 (by simp [execOp, go_sem, Act.eval, e66, e67]; try omega) (Below.refl _ _) rfl
                    · simp only [List.getElem?_toArray, List.getElem?_cons_succ, List.getElem?_cons_zero, Option.some.injEq] at ho
                      subst ho
                      refine ⟨rfl, ?_⟩
                      have q65 : A_.tmps[65]? = some (.bool false) := hI.val_ (i := 12) rfl rfl (by decide) (hdep ⟨12, .guard⟩ (by simp) rfl)
                      have e68 : A_.tmps[68]?.getD undef = .pointer (some ⟨w.heap.size, k, none⟩) := getD_of (hI.val_ (i := 15) rfl rfl (by decide) (hdep ⟨15, .data⟩ (by simp) rfl))
                      clear hI hdep
                      obtain ⟨d1, d2, d3, d4, _⟩ := HC.out w3 hh
                      exact .run ((wanted_some rfl rfl q65).trans rfl) (.slice (some ⟨g2 k, 0, none⟩) m m) w3 (by simp [execOp, go_sem, Act.eval, e68, d2]) (Below.refl _ _) rfl
                    · simp only [List.getElem?_toArray, List.getElem?_cons_succ, List.getElem?_cons_zero, Option.some.injEq] at ho
                      subst ho
                      refine ⟨rfl, ?_⟩
                      have q65 : A_.tmps[65]? = some (.bool false) := hI.val_ (i := 12) rfl rfl (by decide) (hdep ⟨12, .guard⟩ (by simp) rfl)
                      have e7 : A_.tmps[7]?.getD undef = .int .i64 (j : Int) := by rw [hI.low 7 (by decide)]; rfl
                      clear hI hdep
                      exact .run ((wanted_some rfl rfl q65).trans rfl) (.int .i64 (j : Int)) w3 (by simp [execOp, go_sem, Act.eval, e7]) (Below.refl _ _) rfl
                    · simp only [List.getElem?_toArray, List.getElem?_cons_succ, List.getElem?_cons_zero, Option.some.injEq] at ho
                      subst ho
                      refine ⟨rfl, ?_⟩
                      have q65 : A_.tmps[65]? = some (.bool false) := hI.val_ (i := 12) rfl rfl (by decide) (hdep ⟨12, .guard⟩ (by simp) rfl)
                      have e69 : A_.tmps[69]?.getD undef = .slice (some ⟨g2 k, 0, none⟩) m m := getD_of (hI.val_ (i := 16) rfl rfl (by decide) (hdep ⟨16, .data⟩ (by simp) rfl))
                      have e70 : A_.tmps[70]?.getD undef = .int .i64 (j : Int) := getD_of (hI.val_ (i := 17) rfl rfl (by decide) (hdep ⟨17, .data⟩ (by simp) rfl))
                      clear hI hdep
                      exact .run ((wanted_some rfl rfl q65).trans rfl) (.pointer (some ⟨g2 k, j, none⟩)) w3 (by simp [execOp, go_sem, Act.eval, e69, e70]; try omega) (Below.refl _ _) rfl
                    · simp only [List.getElem?_toArray, List.getElem?_cons_succ, List.getElem?_cons_zero, Option.some.injEq] at ho
                      subst ho
                      refine ⟨rfl, ?_⟩
                      have q65 : A_.tmps[65]? = some (.bool false) := hI.val_ (i := 12) rfl rfl (by decide) (hdep ⟨12, .guard⟩ (by simp) rfl)
                      have e71 : A_.tmps[71]?.getD undef = .pointer (some ⟨g2 k, j, none⟩) := getD_of (hI.val_ (i := 18) rfl rfl (by decide) (hdep ⟨18, .data⟩ (by simp) rfl))
                      clear hI hdep
                      obtain ⟨d1, d2, d3, d4, _⟩ := HC.out w3 hh
                      exact .run ((wanted_some rfl rfl q65).trans rfl) (.bool b2) w3 (by simp [execOp, go_sem, Act.eval, e71, d4]) (Below.refl _ _) rfl
                    · simp only [List.getElem?_toArray, List.getElem?_cons_succ, List.getElem?_cons_zero, Option.some.injEq] at ho
                      subst ho
                      refine ⟨rfl, ?_⟩
                      have e65 : A_.tmps[65]?.getD undef = .bool false := getD_of (hI.val_ (i := 12) rfl rfl (by decide) (hdep ⟨12, .data⟩ (by simp) rfl))
                      have e72 : A_.tmps[72]?.getD undef = .bool b2 := getD_of (hI.val_ (i := 19) rfl rfl (by decide) (hdep ⟨19, .data⟩ (by simp) rfl))
                      clear hI hdep
                      exact .run rfl (.bool b2) w3 (by simp [execOp, go_sem, Act.eval, e65, e72]) (Below.refl _ _) rfl
                    · simp only [List.getElem?_toArray, List.getElem?_cons_succ, List.getElem?_cons_zero, Option.some.injEq] at ho
                      subst ho
                      refine ⟨rfl, ?_⟩
                      have e56 : A_.tmps[56]?.getD undef = .slice (some ⟨g2 x, 0, none⟩) m m := getD_of (hI.val_ (i := 3) rfl rfl (by decide) (hdep ⟨3, .data⟩ (by simp) rfl))
                      have e57 : A_.tmps[57]?.getD undef = .int .i64 (j : Int) := getD_of (hI.val_ (i := 4) rfl rfl (by decide) (hdep ⟨4, .data⟩ (by simp) rfl))
                      clear hI hdep
                      exact .run rfl (.pointer (some ⟨g2 x, j, none⟩)) w3 (by simp [execOp, go_sem, Act.eval, e56, e57]; try omega) (Below.refl _ _) rfl
                  case fin =>
                  intro A_ w3 hs hd hlow hS hok
                  obtain rfl : A_ = ⟨#[.slice (some ⟨g, 0, none⟩) m c, undef, .slice none 0 0, .int .i64 (m : Int), .slice (some ⟨w.heap.size, 0, none⟩) m m, .int .i64 (x : Int), .int .i64 (k : Int), .int .i64 (j : Int), .slice (some ⟨g, 0, none⟩) m c, .int .i64 (m : Int), .int .i64 (m : Int), .slice (some ⟨w.heap.size, 0, none⟩) m m, .int .i64 (m : Int), .int .i64 ((m : Int) - 1), .int .i64 (x : Int), .bool true, u16, u17, .slice (some ⟨w.heap.size, 0, none⟩) m m, .int .i64 (x : Int), .int .i64 (m : Int), .slice (some ⟨wo.heap.size, 0, none⟩) m m, .pointer (some { block := w.heap.size, off := x }), .int .i64 (x : Int), .int .i64 ((x : Int) + 1), .int .i64 (k : Int), .int .i64 (m : Int), .bool true, u28, u29, .slice (some ⟨g, 0, none⟩) m c, .int .i64 (x : Int), .pointer (some { block := g, off := x * 11 }), .agg #[.int .i64 sx.ev.k, .int .i64 sx.ev.n, .int .i64 sx.ev.a, .int .i64 sx.ev.m.c, .int .i64 sx.ev.m.h, .int .i64 sx.ev.m.t, .int .i64 sx.ev.m.i, .int .i64 sx.ev.m.p, .slice sx.qB sx.qs.length sx.qc, .bool sx.ob, .slice sx.sB sx.ms.length sx.sc], .slice (some ⟨g, 0, none⟩) m c, .int .i64 (k : Int), .pointer (some { block := g, off := k * 11 }), .agg #[.int .i64 sk.ev.k, .int .i64 sk.ev.n, .int .i64 sk.ev.a, .int .i64 sk.ev.m.c, .int .i64 sk.ev.m.h, .int .i64 sk.ev.m.t, .int .i64 sk.ev.m.i, .int .i64 sk.ev.m.p, .slice sk.qB sk.qs.length sk.qc, .bool sk.ob, .slice sk.sB sk.ms.length sk.sc], .bool true, .bool false, .slice (some ⟨w.heap.size, 0, none⟩) m m, .int .i64 (x : Int), .pointer (some { block := w.heap.size, off := x }), .slice (some ⟨g2 x, 0, none⟩) m m, .int .i64 (k : Int), .pointer (some { block := g2 x, off := k }), .int .i64 (k : Int), .int .i64 ((k : Int) + 1), .int .i64 (j : Int), .int .i64 (m : Int), .bool true, u51, u52, .slice (some ⟨w.heap.size, 0, none⟩) m m, .int .i64 (x : Int), .pointer (some ⟨w.heap.size, x, none⟩), .slice (some ⟨g2 x, 0, none⟩) m m, .int .i64 (j : Int), .slice (some ⟨w.heap.size, 0, none⟩) m m, .int .i64 (x : Int), .pointer (some ⟨w.heap.size, x, none⟩), .slice (some ⟨g2 x, 0, none⟩) m m, .int .i64 (j : Int), .pointer (some ⟨g2 x, j, none⟩), .bool false, .bool false, .slice (some ⟨w.heap.size, 0, none⟩) m m, .int .i64 (k : Int), .pointer (some ⟨w.heap.size, k, none⟩), .slice (some ⟨g2 k, 0, none⟩) m m, .int .i64 (j : Int), .pointer (some ⟨g2 k, j, none⟩), .bool b2, .bool b2, .pointer (some ⟨g2 x, j, none⟩), undef], []⟩ := act_ext hd hs (fun j hj => match j, hj with | 0, _ => (hlow 0 (by decide)).trans rfl | 1, _ => (hlow 1 (by decide)).trans rfl | 2, _ => (hlow 2 (by decide)).trans rfl | 3, _ => (hlow 3 (by decide)).trans rfl | 4, _ => (hlow 4 (by decide)).trans rfl | 5, _ => (hlow 5 (by decide)).trans rfl | 6, _ => (hlow 6 (by decide)).trans rfl | 7, _ => (hlow 7 (by decide)).trans rfl | 8, _ => (hlow 8 (by decide)).trans rfl | 9, _ => (hlow 9 (by decide)).trans rfl | 10, _ => (hlow 10 (by decide)).trans rfl | 11, _ => (hlow 11 (by decide)).trans rfl | 12, _ => (hlow 12 (by decide)).trans rfl | 13, _ => (hlow 13 (by decide)).trans rfl | 14, _ => (hlow 14 (by decide)).trans rfl | 15, _ => (hlow 15 (by decide)).trans rfl | 16, _ => (hlow 16 (by decide)).trans rfl | 17, _ => (hlow 17 (by decide)).trans rfl | 18, _ => (hlow 18 (by decide)).trans rfl | 19, _ => (hlow 19 (by decide)).trans rfl | 20, _ => (hlow 20 (by decide)).trans rfl | 21, _ => (hlow 21 (by decide)).trans rfl | 22, _ => (hlow 22 (by decide)).trans rfl | 23, _ => (hlow 23 (by decide)).trans rfl | 24, _ => (hlow 24 (by decide)).trans rfl | 25, _ => (hlow 25 (by decide)).trans rfl | 26, _ => (hlow 26 (by decide)).trans rfl | 27, _ => (hlow 27 (by decide)).trans rfl | 28, _ => (hlow 28 (by decide)).trans rfl | 29, _ => (hlow 29 (by decide)).trans rfl | 30, _ => (hlow 30 (by decide)).trans rfl | 31, _ => (hlow 31 (by decide)).trans rfl | 32, _ => (hlow 32 (by decide)).trans rfl | 33, _ => (hlow 33 (by decide)).trans rfl | 34, _ => (hlow 34 (by decide)).trans rfl | 35, _ => (hlow 35 (by decide)).trans rfl | 36, _ => (hlow 36 (by decide)).trans rfl | 37, _ => (hlow 37 (by decide)).trans rfl | 38, _ => (hlow 38 (by decide)).trans rfl | 39, _ => (hlow 39 (by decide)).trans rfl | 40, _ => (hlow 40 (by decide)).trans rfl | 41, _ => (hlow 41 (by decide)).trans rfl | 42, _ => (hlow 42 (by decide)).trans rfl | 43, _ => (hlow 43 (by decide)).trans rfl | 44, _ => (hlow 44 (by decide)).trans rfl | 45, _ => (hlow 45 (by decide)).trans rfl | 46, _ => (hlow 46 (by decide)).trans rfl | 47, _ => (hlow 47 (by decide)).trans rfl | 48, _ => (hlow 48 (by decide)).trans rfl | 49, _ => (hlow 49 (by decide)).trans rfl | 50, _ => (hlow 50 (by decide)).trans rfl | 51, _ => (hlow 51 (by decide)).trans rfl | 52, _ => (hlow 52 (by decide)).trans rfl | 53, _ => RgX.val_at (hok 0 53 _ (by decide) rfl rfl) | 54, _ => RgX.val_at (hok 1 54 _ (by decide) rfl rfl) | 55, _ => RgX.val_at (hok 2 55 _ (by decide) rfl rfl) | 56, _ => RgX.val_at (hok 3 56 _ (by decide) rfl rfl) | 57, _ => RgX.val_at (hok 4 57 _ (by decide) rfl rfl) | 58, _ => RgX.val_at (hok 5 58 _ (by decide) rfl rfl) | 59, _ => RgX.val_at (hok 6 59 _ (by decide) rfl rfl) | 60, _ => RgX.val_at (hok 7 60 _ (by decide) rfl rfl) | 61, _ => RgX.val_at (hok 8 61 _ (by decide) rfl rfl) | 62, _ => RgX.val_at (hok 9 62 _ (by decide) rfl rfl) | 63, _ => RgX.val_at (hok 10 63 _ (by decide) rfl rfl) | 64, _ => RgX.val_at (hok 11 64 _ (by decide) rfl rfl) | 65, _ => RgX.val_at (hok 12 65 _ (by decide) rfl rfl) | 66, _ => RgX.val_at (hok 13 66 _ (by decide) rfl rfl) | 67, _ => RgX.val_at (hok 14 67 _ (by decide) rfl rfl) | 68, _ => RgX.val_at (hok 15 68 _ (by decide) rfl rfl) | 69, _ => RgX.val_at (hok 16 69 _ (by decide) rfl rfl) | 70, _ => RgX.val_at (hok 17 70 _ (by decide) rfl rfl) | 71, _ => RgX.val_at (hok 18 71 _ (by decide) rfl rfl) | 72, _ => RgX.val_at (hok 19 72 _ (by decide) rfl rfl) | 73, _ => RgX.val_at (hok 20 73 _ (by decide) rfl rfl) | 74, _ => RgX.val_at (hok 21 74 _ (by decide) rfl rfl) | 75, _ => (hlow 75 (by decide)).trans rfl | n + 76, h => absurd h (by show ¬ n + 76 < 76; omega))
                  clear hs hd hlow hok 
                  obtain ⟨_, _, d2, _, df⟩ := HC.out w3 hS
                  have HS := Lib.hid hS
                  clear HC hS
                  go_wp2_with fail
                  go_roundw
                  case rel => exact ⟨j + 1, by go_num, by omega, by omega, (HST.out _ HS.out _ rfl).1, (HST.out _ HS.out _ rfl).2⟩
                  case measure => simp [intOf]; omega
                · go_upto_region 15 with (fail)
                  refine RgX.tail 22 (fun i => ( 53 + i)) (fun ix_ => match ix_ with | 0 => .v (.slice (some ⟨w.heap.size, 0, none⟩) m m) | 1 => .v (.int .i64 (x : Int)) | 2 => .v (.pointer (some ⟨w.heap.size, x, none⟩)) | 3 => .v (.slice (some ⟨g2 x, 0, none⟩) m m) | 4 => .v (.int .i64 (j : Int)) | 5 => .v (.slice (some ⟨w.heap.size, 0, none⟩) m m) | 6 => .v (.int .i64 (x : Int)) | 7 => .v (.pointer (some ⟨w.heap.size, x, none⟩)) | 8 => .v (.slice (some ⟨g2 x, 0, none⟩) m m) | 9 => .v (.int .i64 (j : Int)) | 10 => .v (.pointer (some ⟨g2 x, j, none⟩)) | 11 => .v (.bool true) | 12 => .v (.bool true) | 13 => .v (undef) | 14 => .v (undef) | 15 => .v (undef) | 16 => .v (undef) | 17 => .v (undef) | 18 => .v (undef) | 19 => .v (undef) | 20 => .v (.bool true) | 21 => .v (.pointer (some ⟨g2 x, j, none⟩)) | _ => .any) _ (by kernel_rfl) rfl rfl (by kernel_rfl) (by kernel_rfl) (fun i hi => by show ( 53 + i) < 76; (repeat' split) <;> omega) (fun i j hi hj => by show ( 53 + i) = ( 53 + j) → i = j; (repeat' split) <;> omega) ?step ?fin
                  case step =>
                    intro L_ A_ w3 ix op_ hi hI ho hdep
                    have hcase : ix = 0 ∨ ix = 1 ∨ ix = 2 ∨ ix = 3 ∨ ix = 4 ∨ ix = 5 ∨ ix = 6 ∨ ix = 7 ∨ ix = 8 ∨ ix = 9 ∨ ix = 10 ∨ ix = 11 ∨ ix = 12 ∨ ix = 13 ∨ ix = 14 ∨ ix = 15 ∨ ix = 16 ∨ ix = 17 ∨ ix = 18 ∨ ix = 19 ∨ ix = 20 ∨ ix = 21 := by omega
                    have hh := hI.held
                    clear hi
                    rcases hcase with rfl | rfl | rfl | rfl | rfl | rfl | rfl | rfl | rfl | rfl | rfl | rfl | rfl | rfl | rfl | rfl | rfl | rfl | rfl | rfl | rfl | rfl
                    · simp only [List.getElem?_toArray, List.getElem?_cons_zero, Option.some.injEq] at ho
                      subst ho
                      refine ⟨rfl, ?_⟩
                      have e4 : A_.tmps[4]?.getD undef = .slice (some ⟨w.heap.size, 0, none⟩) m m := by rw [hI.low 4 (by decide)]; rfl
                      clear hI hdep
                      exact .run rfl (.slice (some ⟨w.heap.size, 0, none⟩) m m) w3 (by simp [execOp, go_sem, Act.eval, e4]) (Below.refl _ _) rfl
                    · simp only [List.getElem?_toArray, List.getElem?_cons_succ, List.getElem?_cons_zero, Option.some.injEq] at ho
                      subst ho
                      refine ⟨rfl, ?_⟩
                      have e5 : A_.tmps[5]?.getD undef = .int .i64 (x : Int) := by rw [hI.low 5 (by decide)]; rfl
                      clear hI hdep
                      exact .run rfl (.int .i64 (x : Int)) w3 (by simp [execOp, go_sem, Act.eval, e5]) (Below.refl _ _) rfl
                    · simp only [List.getElem?_toArray, List.getElem?_cons_succ, List.getElem?_cons_zero, Option.some.injEq] at ho
                      subst ho
                      refine ⟨rfl, ?_⟩
                      have e53 : A_.tmps[53]?.getD undef = .slice (some ⟨w.heap.size, 0, none⟩) m m := getD_of (hI.val_ (i := 0) rfl rfl (by decide) (hdep ⟨0, .data⟩ (by simp) rfl))
                      have e54 : A_.tmps[54]?.getD undef = .int .i64 (x : Int) := getD_of (hI.val_ (i := 1) rfl rfl (by decide) (hdep ⟨1, .data⟩ (by simp) rfl))
                      clear hI hdep
                      exact .run rfl (.pointer (some ⟨w.heap.size, x, none⟩)) w3 (by simp [execOp, go_sem, Act.eval, e53, e54]; try omega) (Below.refl _ _) rfl
                    · simp only [List.getElem?_toArray, List.getElem?_cons_succ, List.getElem?_cons_zero, Option.some.injEq] at ho
                      subst ho
                      refine ⟨rfl, ?_⟩
                      have e55 : A_.tmps[55]?.getD undef = .pointer (some ⟨w.heap.size, x, none⟩) := getD_of (hI.val_ (i := 2) rfl rfl (by decide) (hdep ⟨2, .data⟩ (by simp) rfl))
                      clear hI hdep
                      obtain ⟨d1, d2, d3, d4, _⟩ := HC.out w3 hh
                      exact .run rfl (.slice (some ⟨g2 x, 0, none⟩) m m) w3 (by simp [execOp, go_sem, Act.eval, e55, d1]) (Below.refl _ _) rfl
                    · simp only [List.getElem?_toArray, List.getElem?_cons_succ, List.getElem?_cons_zero, Option.some.injEq] at ho
                      subst ho
                      refine ⟨rfl, ?_⟩
                      have e7 : A_.tmps[7]?.getD undef = .int .i64 (j : Int) := by rw [hI.low 7 (by decide)]; rfl
                      clear hI hdep
                      exact .run rfl (.int .i64 (j : Int)) w3 (by simp [execOp, go_sem, Act.eval, e7]) (Below.refl _ _) rfl
                    · simp only [List.getElem?_toArray, List.getElem?_cons_succ, List.getElem?_cons_zero, Option.some.injEq] at ho
                      subst ho
                      refine ⟨rfl, ?_⟩
                      have e4 : A_.tmps[4]?.getD undef = .slice (some ⟨w.heap.size, 0, none⟩) m m := by rw [hI.low 4 (by decide)]; rfl
                      clear hI hdep
                      exact .run rfl (.slice (some ⟨w.heap.size, 0, none⟩) m m) w3 (by simp [execOp, go_sem, Act.eval, e4]) (Below.refl _ _) rfl
                    · simp only [List.getElem?_toArray, List.getElem?_cons_succ, List.getElem?_cons_zero, Option.some.injEq] at ho
                      subst ho
                      refine ⟨rfl, ?_⟩
                      have e5 : A_.tmps[5]?.getD undef = .int .i64 (x : Int) := by rw [hI.low 5 (by decide)]; rfl
                      clear hI hdep
                      exact .run rfl (.int .i64 (x : Int)) w3 (by simp [execOp, go_sem, Act.eval, e5]) (Below.refl _ _) rfl
                    · simp only [List.getElem?_toArray, List.getElem?_cons_succ, List.getElem?_cons_zero, Option.some.injEq] at ho
                      subst ho
                      refine ⟨rfl, ?_⟩
                      have e58 : A_.tmps[58]?.getD undef = .slice (some ⟨w.heap.size, 0, none⟩) m m := getD_of (hI.val_ (i := 5) rfl rfl (by decide) (hdep ⟨5, .data⟩ (by simp) rfl))
                      have e59 : A_.tmps[59]?.getD undef = .int .i64 (x : Int) := getD_of (hI.val_ (i := 6) rfl rfl (by decide) (hdep ⟨6, .data⟩ (by simp) rfl))
                      clear hI hdep
                      exact .run rfl (.pointer (some ⟨w.heap.size, x, none⟩)) w3 (by simp [execOp, go_sem, Act.eval, e58, e59]; try omega) (Below.refl _ _) rfl
                    · simp only [List.getElem?_toArray, List.getElem?_cons_succ, List.getElem?_cons_zero, Option.some.injEq] at ho
                      subst ho
                      refine ⟨rfl, ?_⟩
                      have e60 : A_.tmps[60]?.getD undef = .pointer (some ⟨w.heap.size, x, none⟩) := getD_of (hI.val_ (i := 7) rfl rfl (by decide) (hdep ⟨7, .data⟩ (by simp) rfl))
                      clear hI hdep
                      obtain ⟨d1, d2, d3, d4, _⟩ := HC.out w3 hh
                      exact .run rfl (.slice (some ⟨g2 x, 0, none⟩) m m) w3 (by simp [execOp, go_sem, Act.eval, e60, d1]) (Below.refl _ _) rfl
                    · simp only [List.getElem?_toArray, List.getElem?_cons_succ, List.getElem?_cons_zero, Option.some.injEq] at ho
                      subst ho
                      refine ⟨rfl, ?_⟩
                      have e7 : A_.tmps[7]?.getD undef = .int .i64 (j : Int) := by rw [hI.low 7 (by decide)]; rfl
                      clear hI hdep
                      exact .run rfl (.int .i64 (j : Int)) w3 (by simp [execOp, go_sem, Act.eval, e7]) (Below.refl _ _) rfl
                    · simp only [List.getElem?_toArray, List.getElem?_cons_succ, List.getElem?_cons_zero, Option.some.injEq] at ho
                      subst ho
                      refine ⟨rfl, ?_⟩
                      have e61 : A_.tmps[61]?.getD undef = .slice (some ⟨g2 x, 0, none⟩) m m := getD_of (hI.val_ (i := 8) rfl rfl (by decide) (hdep ⟨8, .data⟩ (by simp) rfl))
                      have e62 : A_.tmps[62]?.getD undef = .int .i64 (j : Int) := getD_of (hI.val_ (i := 9) rfl rfl (by decide) (hdep ⟨9, .data⟩ (by simp) rfl))
                      clear hI hdep
                      exact .run rfl (.pointer (some ⟨g2 x, j, none⟩)) w3 (by simp [execOp, go_sem, Act.eval, e61, e62]; try omega) (Below.refl _ _) rfl
                    · simp only [List.getElem?_toArray, List.getElem?_cons_succ, List.getElem?_cons_zero, Option.some.injEq] at ho
                      subst ho
                      refine ⟨rfl, ?_⟩
                      have e63 : A_.tmps[63]?.getD undef = .pointer (some ⟨g2 x, j, none⟩) := getD_of (hI.val_ (i := 10) rfl rfl (by decide) (hdep ⟨10, .data⟩ (by simp) rfl))
                      clear hI hdep
                      obtain ⟨d1, d2, d3, d4, _⟩ := HC.out w3 hh
                      exact .run rfl (.bool true) w3 (by simp [execOp, go_sem, Act.eval, e63, d3]) (Below.refl _ _) rfl
                    · simp only [List.getElem?_toArray, List.getElem?_cons_succ, List.getElem?_cons_zero, Option.some.injEq] at ho
                      subst ho
                      refine ⟨rfl, ?_⟩
                      have e64 : A_.tmps[64]?.getD undef = .bool true := getD_of (hI.val_ (i := 11) rfl rfl (by decide) (hdep ⟨11, .data⟩ (by simp) rfl))
                      clear hI hdep
                      exact .run rfl (.bool true) w3 (by simp [execOp, go_sem, Act.eval, e64]) (Below.refl _ _) rfl
                    · simp only [List.getElem?_toArray, List.getElem?_cons_succ, List.getElem?_cons_zero, Option.some.injEq] at ho
                      subst ho
                      refine ⟨rfl, ?_⟩
                      have q65 : A_.tmps[65]? = some (.bool true) := hI.val_ (i := 12) rfl rfl (by decide) (hdep ⟨12, .guard⟩ (by simp) rfl)
                      exact .skip ((wanted_some rfl rfl q65).trans rfl) (fun _ => rfl)
                    · simp only [List.getElem?_toArray, List.getElem?_cons_succ, List.getElem?_cons_zero, Option.some.injEq] at ho
                      subst ho
                      refine ⟨rfl, ?_⟩
                      have q65 : A_.tmps[65]? = some (.bool true) := hI.val_ (i := 12) rfl rfl (by decide) (hdep ⟨12, .guard⟩ (by simp) rfl)
                      exact .skip ((wanted_some rfl rfl q65).trans rfl) (fun _ => rfl)
                    · simp only [List.getElem?_toArray, List.getElem?_cons_succ, List.getElem?_cons_zero, Option.some.injEq] at ho
                      subst ho
                      refine ⟨rfl, ?_⟩
                      have q65 : A_.tmps[65]? = some (.bool true) := hI.val_ (i := 12) rfl rfl (by decide) (hdep ⟨12, .guard⟩ (by simp) rfl)
                      exact .skip ((wanted_some rfl rfl q65).trans rfl) (fun _ => rfl)
                    · simp only [List.getElem?_toArray, List.getElem?_cons_succ, List.getElem?_cons_zero, Option.some.injEq] at ho
                      subst ho
                      refine ⟨rfl, ?_⟩
                      have q65 : A_.tmps[65]? = some (.bool true) := hI.val_ (i := 12) rfl rfl (by decide) (hdep ⟨12, .guard⟩ (by simp) rfl)
                      exact .skip ((wanted_some rfl rfl q65).trans rfl) (fun _ => rfl)
                    · simp only [List.getElem?_toArray, List.getElem?_cons_succ, List.getElem?_cons_zero, Option.some.injEq] at ho
                      subst ho
                      refine ⟨rfl, ?_⟩
                      have q65 : A_.tmps[65]? = some (.bool true) := hI.val_ (i := 12) rfl rfl (by decide) (hdep ⟨12, .guard⟩ (by simp) rfl)
                      exact .skip ((wanted_some rfl rfl q65).trans rfl) (fun _ => rfl)
                    · simp only [List.getElem?_toArray, List.getElem?_cons_succ, List.getElem?_cons_zero, Option.some.injEq] at ho
                      subst ho
                      refine ⟨rfl, ?_⟩
                      have q65 : A_.tmps[65]? = some (.bool true) := hI.val_ (i := 12) rfl rfl (by decide) (hdep ⟨12, .guard⟩ (by simp) rfl)
                      exact .skip ((wanted_some rfl rfl q65).trans rfl) (fun _ => rfl)
                    · simp only [List.getElem?_toArray, List.getElem?_cons_succ, List.getElem?_cons_zero, Option.some.injEq] at ho
                      subst ho
                      refine ⟨rfl, ?_⟩
                      have q65 : A_.tmps[65]? = some (.bool true) := hI.val_ (i := 12) rfl rfl (by decide) (hdep ⟨12, .guard⟩ (by simp) rfl)
                      exact .skip ((wanted_some rfl rfl q65).trans rfl) (fun _ => rfl)
                    · simp only [List.getElem?_toArray, List.getElem?_cons_succ, List.getElem?_cons_zero, Option.some.injEq] at ho
                      subst ho
                      refine ⟨rfl, ?_⟩
                      have e65 : A_.tmps[65]?.getD undef = .bool true := getD_of (hI.val_ (i := 12) rfl rfl (by decide) (hdep ⟨12, .data⟩ (by simp) rfl))
                      have e72 : A_.tmps[72]?.getD undef = undef := getD_of (hI.val_ (i := 19) rfl rfl (by decide) (hdep ⟨19, .data⟩ (by simp) rfl))
                      clear hI hdep
                      exact .run rfl (.bool true) w3 (by simp [execOp, go_sem, Act.eval, e65, e72]) (Below.refl _ _) rfl
                    · simp only [List.getElem?_toArray, List.getElem?_cons_succ, List.getElem?_cons_zero, Option.some.injEq] at ho
                      subst ho
                      refine ⟨rfl, ?_⟩
                      have e56 : A_.tmps[56]?.getD undef = .slice (some ⟨g2 x, 0, none⟩) m m := getD_of (hI.val_ (i := 3) rfl rfl (by decide) (hdep ⟨3, .data⟩ (by simp) rfl))
                      have e57 : A_.tmps[57]?.getD undef = .int .i64 (j : Int) := getD_of (hI.val_ (i := 4) rfl rfl (by decide) (hdep ⟨4, .data⟩ (by simp) rfl))
                      clear hI hdep
                      exact .run rfl (.pointer (some ⟨g2 x, j, none⟩)) w3 (by simp [execOp, go_sem, Act.eval, e56, e57]; try omega) (Below.refl _ _) rfl
                  case fin =>
                  intro A_ w3 hs hd hlow hS hok
                  obtain rfl : A_ = ⟨#[.slice (some ⟨g, 0, none⟩) m c, undef, .slice none 0 0, .int .i64 (m : Int), .slice (some ⟨w.heap.size, 0, none⟩) m m, .int .i64 (x : Int), .int .i64 (k : Int), .int .i64 (j : Int), .slice (some ⟨g, 0, none⟩) m c, .int .i64 (m : Int), .int .i64 (m : Int), .slice (some ⟨w.heap.size, 0, none⟩) m m, .int .i64 (m : Int), .int .i64 ((m : Int) - 1), .int .i64 (x : Int), .bool true, u16, u17, .slice (some ⟨w.heap.size, 0, none⟩) m m, .int .i64 (x : Int), .int .i64 (m : Int), .slice (some ⟨wo.heap.size, 0, none⟩) m m, .pointer (some { block := w.heap.size, off := x }), .int .i64 (x : Int), .int .i64 ((x : Int) + 1), .int .i64 (k : Int), .int .i64 (m : Int), .bool true, u28, u29, .slice (some ⟨g, 0, none⟩) m c, .int .i64 (x : Int), .pointer (some { block := g, off := x * 11 }), .agg #[.int .i64 sx.ev.k, .int .i64 sx.ev.n, .int .i64 sx.ev.a, .int .i64 sx.ev.m.c, .int .i64 sx.ev.m.h, .int .i64 sx.ev.m.t, .int .i64 sx.ev.m.i, .int .i64 sx.ev.m.p, .slice sx.qB sx.qs.length sx.qc, .bool sx.ob, .slice sx.sB sx.ms.length sx.sc], .slice (some ⟨g, 0, none⟩) m c, .int .i64 (k : Int), .pointer (some { block := g, off := k * 11 }), .agg #[.int .i64 sk.ev.k, .int .i64 sk.ev.n, .int .i64 sk.ev.a, .int .i64 sk.ev.m.c, .int .i64 sk.ev.m.h, .int .i64 sk.ev.m.t, .int .i64 sk.ev.m.i, .int .i64 sk.ev.m.p, .slice sk.qB sk.qs.length sk.qc, .bool sk.ob, .slice sk.sB sk.ms.length sk.sc], .bool true, .bool false, .slice (some ⟨w.heap.size, 0, none⟩) m m, .int .i64 (x : Int), .pointer (some { block := w.heap.size, off := x }), .slice (some ⟨g2 x, 0, none⟩) m m, .int .i64 (k : Int), .pointer (some { block := g2 x, off := k }), .int .i64 (k : Int), .int .i64 ((k : Int) + 1), .int .i64 (j : Int), .int .i64 (m : Int), .bool true, u51, u52, .slice (some ⟨w.heap.size, 0, none⟩) m m, .int .i64 (x : Int), .pointer (some ⟨w.heap.size, x, none⟩), .slice (some ⟨g2 x, 0, none⟩) m m, .int .i64 (j : Int), .slice (some ⟨w.heap.size, 0, none⟩) m m, .int .i64 (x : Int), .pointer (some ⟨w.heap.size, x, none⟩), .slice (some ⟨g2 x, 0, none⟩) m m, .int .i64 (j : Int), .pointer (some ⟨g2 x, j, none⟩), .bool true, .bool true, undef, undef, undef, undef, undef, undef, undef, .bool true, .pointer (some ⟨g2 x, j, none⟩), undef], []⟩ := act_ext hd hs (fun j hj => match j, hj with | 0, _ => (hlow 0 (by decide)).trans rfl | 1, _ => (hlow 1 (by decide)).trans rfl | 2, _ => (hlow 2 (by decide)).trans rfl | 3, _ => (hlow 3 (by decide)).trans rfl | 4, _ => (hlow 4 (by decide)).trans rfl | 5, _ => (hlow 5 (by decide)).trans rfl | 6, _ => (hlow 6 (by decide)).trans rfl | 7, _ => (hlow 7 (by decide)).trans rfl | 8, _ => (hlow 8 (by decide)).trans rfl | 9, _ => (hlow 9 (by decide)).trans rfl | 10, _ => (hlow 10 (by decide)).trans rfl | 11, _ => (hlow 11 (by decide)).trans rfl | 12, _ => (hlow 12 (by decide)).trans rfl | 13, _ => (hlow 13 (by decide)).trans rfl | 14, _ => (hlow 14 (by decide)).trans rfl | 15, _ => (hlow 15 (by decide)).trans rfl | 16, _ => (hlow 16 (by decide)).trans rfl | 17, _ => (hlow 17 (by decide)).trans rfl | 18, _ => (hlow 18 (by decide)).trans rfl | 19, _ => (hlow 19 (by decide)).trans rfl | 20, _ => (hlow 20 (by decide)).trans rfl | 21, _ => (hlow 21 (by decide)).trans rfl | 22, _ => (hlow 22 (by decide)).trans rfl | 23, _ => (hlow 23 (by decide)).trans rfl | 24, _ => (hlow 24 (by decide)).trans rfl | 25, _ => (hlow 25 (by decide)).trans rfl | 26, _ => (hlow 26 (by decide)).trans rfl | 27, _ => (hlow 27 (by decide)).trans rfl | 28, _ => (hlow 28 (by decide)).trans rfl | 29, _ => (hlow 29 (by decide)).trans rfl | 30, _ => (hlow 30 (by decide)).trans rfl | 31, _ => (hlow 31 (by decide)).trans rfl | 32, _ => (hlow 32 (by decide)).trans rfl | 33, _ => (hlow 33 (by decide)).trans rfl | 34, _ => (hlow 34 (by decide)).trans rfl | 35, _ => (hlow 35 (by decide)).trans rfl | 36, _ => (hlow 36 (by decide)).trans rfl | 37, _ => (hlow 37 (by decide)).trans rfl | 38, _ => (hlow 38 (by decide)).trans rfl | 39, _ => (hlow 39 (by decide)).trans rfl | 40, _ => (hlow 40 (by decide)).trans rfl | 41, _ => (hlow 41 (by decide)).trans rfl | 42, _ => (hlow 42 (by decide)).trans rfl | 43, _ => (hlow 43 (by decide)).trans rfl | 44, _ => (hlow 44 (by decide)).trans rfl | 45, _ => (hlow 45 (by decide)).trans rfl | 46, _ => (hlow 46 (by decide)).trans rfl | 47, _ => (hlow 47 (by decide)).trans rfl | 48, _ => (hlow 48 (by decide)).trans rfl | 49, _ => (hlow 49 (by decide)).trans rfl | 50, _ => (hlow 50 (by decide)).trans rfl | 51, _ => (hlow 51 (by decide)).trans rfl | 52, _ => (hlow 52 (by decide)).trans rfl | 53, _ => RgX.val_at (hok 0 53 _ (by decide) rfl rfl) | 54, _ => RgX.val_at (hok 1 54 _ (by decide) rfl rfl) | 55, _ => RgX.val_at (hok 2 55 _ (by decide) rfl rfl) | 56, _ => RgX.val_at (hok 3 56 _ (by decide) rfl rfl) | 57, _ => RgX.val_at (hok 4 57 _ (by decide) rfl rfl) | 58, _ => RgX.val_at (hok 5 58 _ (by decide) rfl rfl) | 59, _ => RgX.val_at (hok 6 59 _ (by decide) rfl rfl) | 60, _ => RgX.val_at (hok 7 60 _ (by decide) rfl rfl) | 61, _ => RgX.val_at (hok 8 61 _ (by decide) rfl rfl) | 62, _ => RgX.val_at (hok 9 62 _ (by decide) rfl rfl) | 63, _ => RgX.val_at (hok 10 63 _ (by decide) rfl rfl) | 64, _ => RgX.val_at (hok 11 64 _ (by decide) rfl rfl) | 65, _ => RgX.val_at (hok 12 65 _ (by decide) rfl rfl) | 66, _ => RgX.val_at (hok 13 66 _ (by decide) rfl rfl) | 67, _ => RgX.val_at (hok 14 67 _ (by decide) rfl rfl) | 68, _ => RgX.val_at (hok 15 68 _ (by decide) rfl rfl) | 69, _ => RgX.val_at (hok 16 69 _ (by decide) rfl rfl) | 70, _ => RgX.val_at (hok 17 70 _ (by decide) rfl rfl) | 71, _ => RgX.val_at (hok 18 71 _ (by decide) rfl rfl) | 72, _ => RgX.val_at (hok 19 72 _ (by decide) rfl rfl) | 73, _ => RgX.val_at (hok 20 73 _ (by decide) rfl rfl) | 74, _ => RgX.val_at (hok 21 74 _ (by decide) rfl rfl) | 75, _ => (hlow 75 (by decide)).trans rfl | n + 76, h => absurd h (by show ¬ n + 76 < 76; omega))
                  clear hs hd hlow hok 
                  obtain ⟨_, _, d2, _, df⟩ := HC.out w3 hS
                  have HS := Lib.hid hS
                  clear HC hS
                  go_wp2_with fail
                  go_roundw
                  case rel => exact ⟨j + 1, by go_num, by omega, by omega, (HST.out _ HS.out _ rfl).1, (HST.out _ HS.out _ rfl).2⟩
                  case measure => simp [intOf]; omega
              · obtain rfl : j = m := by omega
                go_wp2_with fail
                go_roundw
                case rel => exact ⟨k + 1, by go_num, by omega, by omega, hml4.out.congr fun a b _ _ hbm => by
                  unfold rowJ rowK
                  by_cases e : a = x
                  · rw [if_pos e, if_pos e, if_pos hbm]
                  · rw [if_neg e, if_neg e], hbl4.out⟩
                case measure => simp [intOf]; omega
        · obtain rfl : k = m := by omega
          go_wp2_with fail
          go_roundw
          case rel => exact ⟨x, g2, by go_num, by omega, hml2.out.congr fun a b _ _ hbm => by
            unfold rowK
            by_cases e : a = x
            · rw [if_pos e, e, ← DP.hbTo_end H14.out, HLEN.out]
            · rw [if_neg e], hbl2.out⟩
          case measure => simp [intOf]
end Go.Proofs.YtlomhoohmcnniaaDoor
