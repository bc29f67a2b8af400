/-
  Print: the canonical source of a program. Conditions: the program is one that the parser gives (WU); the library's table is laid.
-/
import Derived.Test.YtlfpaemfhanpiaaGreatDoorK19
import Derived.Test.YtlfpaemfhanpiaaGreatDoorK32
import Derived.Laws.IdiomStrings

namespace Go.Proofs.YtlfpaemfhanpiaaGreatDoor
open Go Go.RowKit Go.Proofs
attribute [local go_sem] Oper.semAt_some

set_option maxRecDepth 100000 in
set_option maxHeartbeats 2000000 in
theorem print_idle (p : Addr) (w : World) : CallsD Tryz.prog 19 #[.pointer (some p)] .returning w fun e u' w' => e = .returned (.tuple #[]) ∧ u' = .returning ∧ w' = w := by
  refine callsD_of_wpS Tryz.func19 rfl fun c₀ cs hu => ?_
  apply wpS_seq
  apply wpS_region
  change wpOpsS _ _ _ [0, 1] ⟨#[.pointer (some p), undef, undef], []⟩ _ _
  refine s_none rfl rfl rfl (by simp [recoverD, hu]) ?_
  change wpOpsS _ _ _ [1] ⟨#[.pointer (some p), .nilIface, undef], []⟩ _ _
  refine s_val2 (a' := ⟨#[.pointer (some p), .nilIface, .bool false], []⟩) (w' := w) (.bool false) rfl rfl (by kernel_rfl) rfl ?_
  change Code.wpS _ _ _ ⟨#[.pointer (some p), .nilIface, .bool false], []⟩ _ _
  refine wpS_cond (t := false) rfl ?_
  simp only [Bool.false_eq_true, if_false]
  refine wpS_of_wp (wp_skip ?_)
  cases c₀
  simp_all [bodyPostS, results, Tryz.results19]
theorem ret_St {fn : Func} {p : Tmp} (hf : fn.results = #[.cell p 9]) {V : World} {b : Nat} {y : Value} (tmps : Array Value) (hp : tmps[p]?.getD undef = .pointer (some ⟨b, 0, none⟩)) (h : V.heap[b]? = some (.cells #[y] 9 (0, 0))) : (results fn tmps).run Tryz.prog V = .ok y V := by
  have c0 : V.cell? ⟨b, 0, none⟩ = some y := cell_of_row V b 0 _ _ (0, 0) h
  have ia := Tryz.isAgg9
  have so := Tryz.sizeOf9
  simp only [results, hf]
  simp [go_sem, hp, c0, ia, so]
/-- A program that the parser gives. -/
structure WU (u : PS.Un) : Prop where
  dur : ∀ s ∈ u.dur, s ≠ []
  vol : ∀ s ∈ u.vol, s ≠ []
  on : ∀ h ∈ u.on, h.1 < 1000 ∧ ∃ d, PP.WS true d h.2
  len : (PP.print u).length ≤ 100000
  ne : PP.print u ≠ []
theorem sn_of {W : World} {lo c : Nat} {A : Option Addr} {l : List PS.Bs} (h : Dl W lo (.slice A l.length c) l) : SN W A l ∧ l.length ≤ c := by
  rcases h.2 with ⟨e, h0⟩ | ⟨q, cap, cur, e, hc, hq, h1, h2, h3, h4⟩
  · exact ⟨.inl (List.eq_nil_of_length_eq_zero h0), by omega⟩
  · injection e with e1 _ e3
    subst e1 e3
    refine ⟨.inr ⟨q, cur, rfl, hq, fun j s hj => ?_⟩, h1⟩
    have hlt := (List.getElem?_eq_some_iff.1 hj).1
    have h5 : (cur.toList.take (l.length * 1))[j]? = (l.map fun s => Value.string (PS.bs s))[j]? := by rw [h4]
    rw [List.getElem?_take_of_lt (by omega), List.getElem?_map, hj] at h5
    rw [← Array.getElem?_toList]
    exact h5
theorem TR.at_ {lo0 c : Nat} {w V : World} {A : Option Addr} {on : List PS.Hd} {cs : List Value} (h : TR 48 1 lo0 w A on.length c (hnd2 on) cs) (hb : Below w.heap.size w V) : TR 48 1 lo0 V A on.length c (hnd2 on) cs := h.keep (fun x _ h2 => hb.block x h2) hb.size
theorem flat_pre2 (f : PS.Hd → List PS.Bs) (l : List PS.Hd) (j : Nat) : ∃ ys, l.flatMap f = (l.take j).flatMap f ++ ys :=
  ⟨(l.drop j).flatMap f, by rw [← List.flatMap_append, List.take_append_drop]⟩
set_option maxRecDepth 100000 in
/-- The text as a string. -/
theorem conv_text {lo : Nat} {V : World} {z : PS.Bs} {A : Option Addr} {c : Nat} (hne : z ≠ []) (h : V.ownsRow lo 5 1 (.slice A z.length c) z.length (bcells z)) : (convert 49 9 (.slice A z.length c)).run Tryz.prog V = .ok (.string (PS.bs z)) V := by
  have hpos : 0 < z.length := List.length_pos_iff.2 hne
  obtain ⟨q, cap, hv, _, _⟩ := World.ownsRow.form h hpos
  injection hv with e1 _ e3
  subst e1
  exact run_convert_bytes_back V 49 9 5 ⟨q, 0, none⟩ c z Tryz.underlying49 Tryz.underlying5 Tryz.underlying9 fun j hj =>
    World.ownsRow.cells h (g := q) rfl j _ (by rw [bcells, List.getElem?_map, List.getElem?_eq_getElem hj]; rfl)
set_option maxRecDepth 100000 in
set_option maxHeartbeats 4000000 in
theorem print_any (u : PS.Un) (hu : WU u) (w : World) (lo0 : Nat) (v : Value) (hv : UV3 lo0 w u v) (hT : TB w.heap.size w) :
    Calls Tryz.prog 7 #[v] w fun e w' => e = .returned (.string (PS.bs (PP.print u))) ∧ Below w.heap.size w w' := by
  obtain ⟨x, y, A, c, cs, rfl, hx, hy, hon, hdv, hoc, hcm⟩ := hv
  obtain ⟨Ax, cx, rfl, _⟩ := hx.form
  obtain ⟨Ay, cy, rfl, _⟩ := hy.form
  obtain ⟨sx, hcx⟩ := sn_of hx
  obtain ⟨sy, hcy⟩ := sn_of hy
  have hmf : ∀ (fn : Fn) (first cap : Array Value) (w : World), (Instr.makeFunc fn first cap).run Tryz.prog w = .ok (.func fn first cap) w := fun _ _ _ _ => rfl
  obtain ⟨W1, hW1⟩ : ∃ U, ((w.alloc (.cells #[.slice Ax u.dur.length cx, .slice Ay u.vol.length cy, .slice A u.on.length c] 26)).alloc (.cells #[.string ⟨#[]⟩] 9)).alloc (.cells #[.slice none 0 0] 51) = U := ⟨_, rfl⟩
  have z1 : (w.alloc (.cells #[.slice Ax u.dur.length cx, .slice Ay u.vol.length cy, .slice A u.on.length c] 26)).heap.size = w.heap.size + 1 := World.size_alloc _ _
  have z2 : ((w.alloc (.cells #[.slice Ax u.dur.length cx, .slice Ay u.vol.length cy, .slice A u.on.length c] 26)).alloc (.cells #[.string ⟨#[]⟩] 9)).heap.size = w.heap.size + 1 + 1 := by rw [World.size_alloc, z1]
  have z3 : W1.heap.size = w.heap.size + 1 + 1 + 1 := by rw [← hW1, World.size_alloc, z2]
  have b1 : Below w.heap.size w W1 := by rw [← hW1]; exact (((Below.refl _ w).alloc (Nat.le_refl _) _).alloc (by omega) _).alloc (by omega) _
  have k0 : W1.heap[w.heap.size]? = some (.cells #[.slice Ax u.dur.length cx, .slice Ay u.vol.length cy, .slice A u.on.length c] 26 (0, 0)) := by
    rw [← hW1, Below.heap_alloc _ _ _ (by omega), Below.heap_alloc _ _ _ (by omega)]
    exact World.alloc_heap_new w _
  have k1 : W1.heap[w.heap.size + 1]? = some (.cells #[.string ⟨#[]⟩] 9 (0, 0)) := by
    rw [← hW1, Below.heap_alloc _ _ _ (by omega), ← z1]
    exact World.alloc_heap_new _ _
  have k2 : W1.heap[w.heap.size + 1 + 1]? = some (.cells #[.slice none 0 0] 51 (0, 0)) := by
    rw [← hW1, ← z2]
    exact World.alloc_heap_new _ _
  have P0 := Lib.hid (show PrV w.heap.size W1 (w.heap.size + 1 + 1) [] from ⟨by omega, _, k2, World.ownsRow_nil _ _ _ _⟩)
  have T1 := Lib.hid (hT.qt (QT.of_below (lo := w.heap.size) b1))
  have SX := Lib.hid (sx.qt (QT.of_below (lo := w.heap.size) b1))
  have SY := Lib.hid (sy.qt (QT.of_below (lo := w.heap.size) b1))
  have ON := Lib.hid hon
  have B1 := Lib.hid b1
  have K0 := Lib.hid k0
  have K1 := Lib.hid k1
  have HU := Lib.hid hu
  have HW1 := Lib.hid hW1
  have hlow : w.heap.size ≤ W1.heap.size := by omega
  have Z3 := Lib.hid z3
  have HD := Lib.hid hdv
  have hbt : PP.print u = PP.joins (PP.joins (PP.joins [] (PP.tD PS.wDurable u.dur)) (PP.tD PS.wVolatile u.vol)) (u.on.flatMap (PP.tH false)) := by
    unfold PP.print PP.tU
    rw [PP.joins_append, PP.joins_append]
  obtain ⟨R, hR⟩ : ∃ R, PP.print u = R := ⟨_, rfl⟩
  have HBT := Lib.hid (show R = _ from hR ▸ hbt)
  have HNE := Lib.hid (show R ≠ [] from hR ▸ hu.ne)
  have L3 := Lib.hid (show (PP.joins (PP.joins (PP.joins [] (PP.tD PS.wDurable u.dur)) (PP.tD PS.wVolatile u.vol)) (u.on.flatMap (PP.tH false))).length ≤ 100000 from hbt ▸ hu.len)
  have L2 := Lib.hid (len_in L3.out)
  have L1 := Lib.hid (len_in L2.out)
  have hq0 : ∀ {V}, QT w.heap.size W1 V → V.cell? ⟨w.heap.size, 0, none⟩ = some (.slice Ax u.dur.length cx) ∧ V.cell? ⟨w.heap.size, 1, none⟩ = some (.slice Ay u.vol.length cy) ∧ V.cell? ⟨w.heap.size, 2, none⟩ = some (.slice A u.on.length c) := fun {V} q => by
    have h := q.ty _ _ _ K0.out (by decide) (by decide)
    exact ⟨cell_of_row _ _ 0 _ _ (0, 0) h, cell_of_row _ _ 1 _ _ (0, 0) h, cell_of_row _ _ 2 _ _ (0, 0) h⟩
  have HQ0 := Lib.hid (fun V => @hq0 V)
  obtain ⟨a0, a1, a2⟩ := hq0 (QT.refl _ _)
  obtain ⟨md, hmd⟩ : ∃ m, u.dur.length = m := ⟨_, rfl⟩
  obtain ⟨mv, hmv⟩ : ∃ m, u.vol.length = m := ⟨_, rfl⟩
  obtain ⟨mo, hmo⟩ : ∃ m, u.on.length = m := ⟨_, rfl⟩
  have HMD := Lib.hid hmd
  have HMV := Lib.hid hmv
  have HMO := Lib.hid hmo
  have hmdv : md ≤ 1000 ∧ mv ≤ 1000 := by omega
  have hmo9 : mo ≤ 9223372036854775807 := by simp only [maxLen] at hcm; omega
  rw [hmd] at a0 HQ0 hcx HW1 
  rw [hmv] at a1 HQ0 hcy HW1
  rw [hmo] at a2 HQ0 hoc HW1
  rw [hmd, hmv, hmo]
  clear hx hy sx sy hon hu hT hW1 z1 z2 z3 b1 k0 k1 k2 hdv hbt hq0 K0 hmd hmv hmo
  rw [hR]
  clear hR
  go_enter_defers Tryz.func7, Tryz.ntmps7
  go_wp2_with fail
  rw [HW1.out]
  refine (decl_pr w.heap.size (w.heap.size + 1 + 1) W1 [] PS.wDurable u.dur Ax cx md HMD.out hmdv.1 hcx (by decide) HU.out.dur SX.out P0.out hlow L1.out).mono ?_
  rintro e w1 ⟨rfl, h1, h2⟩
  have P1 := Lib.hid h1
  have Q1 := Lib.hid h2
  obtain ⟨b0, b1, b2⟩ := HQ0.out w1 h2
  clear h1 h2 a0 a1 a2
  go_wp2_with fail
  refine (decl_pr w.heap.size (w.heap.size + 1 + 1) w1 _ PS.wVolatile u.vol Ay cy mv HMV.out hmdv.2 hcy (by decide) HU.out.vol (SY.out.qt Q1.out) P1.out (Nat.le_trans hlow Q1.out.size) L2.out).mono ?_
  rintro e w2 ⟨rfl, h1, h2⟩
  have P2 := Lib.hid h1
  have Q2 := Lib.hid (Q1.out.trans h2)
  obtain ⟨a0, a1, a2⟩ := HQ0.out w2 Q2.out
  clear h1 h2 b0 b1 b2
  obtain ⟨y, hy⟩ : ∃ y, PP.joins (PP.joins [] (PP.tD PS.wDurable u.dur)) (PP.tD PS.wVolatile u.vol) = y := ⟨_, rfl⟩
  rw [hy] at HBT L2 L3 P2
  clear hy
  go_wp2_with fail
  go_loopw [16] (fun i V => ∃ j : Nat, j ≤ mo ∧ i = .int .i64 (j : Int) ∧ Hid (PrV w.heap.size V (w.heap.size + 1 + 1) (PP.joins y ((u.on.take j).flatMap (PP.tH false)))) ∧ Hid (QT w.heap.size W1 V)) (fun i _ => mo - (intOf i).toNat)
  case atStart => exact ⟨0, by omega, rfl, P2.out, Q2.out⟩
  case round =>
    obtain ⟨j, hj, rfl, hPr, hQ⟩ := hrel
    clear a0 a1 a2
    have hB := B1.out.trans (hQ.out.below hlow)
    by_cases hjm : j < mo
    · obtain ⟨⟨n, t⟩, htj⟩ : ∃ t, u.on[j]? = some t := ⟨u.on[j]'(by rw [HMO.out]; exact hjm), List.getElem?_eq_getElem (by rw [HMO.out]; exact hjm)⟩
      obtain ⟨hn, d0, hws⟩ := HU.out.on _ (List.mem_of_getElem? htj)
      obtain ⟨b, k, q, s, A', m, d, rfl, hbV, hnd, c0, c1, c2, c3, c4⟩ := (ON.out.at_ hB).hat htj
      have HH := Lib.hid (handler_pr (show n < 1000 from hn) hws)
      have HS := Lib.hid (show PP.joins y ((u.on.take (j + 1)).flatMap (PP.tH false)) = PP.joins (PP.joins y ((u.on.take j).flatMap (PP.tH false))) (PP.tH false (n, t)) from by
        rw [← PP.joins_append, List.take_add_one, htj, List.flatMap_append]
        simp)
      have HLJ := Lib.hid (show (PP.joins (PP.joins y ((u.on.take j).flatMap (PP.tH false))) (PP.tH false (n, t))).length ≤ 100000 from by
        rw [← HS.out]
        obtain ⟨ys, hys⟩ := flat_pre2 (PP.tH false) u.on (j + 1)
        have := L3.out
        rw [hys] at this
        exact len_pre this)
      obtain ⟨z, hz⟩ : ∃ z, PP.joins y ((u.on.take j).flatMap (PP.tH false)) = z := ⟨_, rfl⟩
      rw [hz] at HS HLJ hPr
      have hbn : Below wr.heap.size wr (wr.alloc (.cells #[.int .i64 (n : Int), .int .i64 k, .int .i64 q, .string s, .slice A' m d] 48)) := (Below.refl _ _).alloc (Nat.le_refl _) _
      have HBN := Lib.hid hbn
      have HND := Lib.hid (hnd.under hbn (Nat.le_refl _))
      have hlv : w.heap.size ≤ (wr.alloc (.cells #[.int .i64 (n : Int), .int .i64 k, .int .i64 q, .string s, .slice A' m d] 48)).heap.size := Nat.le_trans (Nat.le_trans hlow hQ.out.size) hbn.size
      have HLV := Lib.hid hlv
      clear htj hz hws hn hnd hbn hB hlv
      go_wp2_with fail
      refine (HH.out w.heap.size (w.heap.size + 1 + 1) wr.heap.size _ z k q s A' m d HND.out (hPr.out.keep HBN.out) (T1.out.qt (hQ.out.trans (QT.of_below HBN.out))) HLV.out HLJ.out).mono ?_
      rintro e w3 ⟨rfl, h1, h2⟩
      have H1 := Lib.hid h1
      have H2 := Lib.hid (hQ.out.trans ((QT.of_below HBN.out).trans h2))
      clear h1 h2 c0 c1 c2 c3 c4
      go_wp2_with fail
      go_roundw
      case rel => exact ⟨j + 1, by omega, by go_num, by show PrV _ _ _ _; rw [HS.out]; exact H1.out, H2.out⟩
      case measure => simp [intOf]; omega
    · obtain rfl : j = mo := by omega
      have h := hPr.out
      rw [List.take_of_length_le (by rw [HMO.out]; exact Nat.le_refl _), ← HBT.out] at h
      obtain ⟨At, ct, hrow, hown, _⟩ := h.form
      have d0 : wr.cell? ⟨w.heap.size + 1 + 1, 0, none⟩ = some (.slice At R.length ct) := cell_of_row _ _ 0 _ _ (0, 0) hrow
      have hk1 := hQ.out.ty _ _ _ K1.out (by decide) (by decide)
      have e0 : wr.cell? ⟨w.heap.size + 1, 0, none⟩ = some (.string ⟨#[]⟩) := cell_of_row _ _ 0 _ _ (0, 0) hk1
      have f0 : wr.frozen? ⟨w.heap.size + 1, 0, none⟩ = false := by simp [World.frozen?, hk1]
      have hcv := conv_text HNE.out hown
      obtain ⟨rl, hrl⟩ : ∃ n, R.length = n := ⟨_, rfl⟩
      rw [hrl] at d0 hcv
      have HK1 := Lib.hid hk1
      have HB := Lib.hid hB
      clear h hPr hrow hown hk1 hB hrl
      go_wp2_with fail
      refine leaves_cons (f := 19) (args := #[.pointer (some ⟨w.heap.size + 1, 0, none⟩)]) (by simp) (by simp [go_sem]) ?_
      refine (print_idle ⟨w.heap.size + 1, 0, none⟩ _).mono ?_
      rintro e u' w6 ⟨rfl, rfl, rfl⟩
      show Leaves _ _ _ _ [] (settle _) _
      simp only [settle]
      refine ⟨_, ret_St rfl _ rfl (row_one HK1.out _), rfl, HB.out.setCell (p := ⟨w.heap.size + 1, 0, none⟩) (Nat.le_succ _) _⟩
end Go.Proofs.YtlfpaemfhanpiaaGreatDoor
