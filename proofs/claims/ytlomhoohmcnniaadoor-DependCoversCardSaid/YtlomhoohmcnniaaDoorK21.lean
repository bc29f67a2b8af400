/-
  The contract of depend.Race. Condition: the run lies in memory, and has at most 14 steps; the library's table lies as it lay.
  The examples of layer 16's laws hold. Condition: the library's table lies as it lay.
-/
import Derived.Test.YtlomhoohmcnniaaDoorK18
import Derived.Test.YtlomhoohmcnniaaDoorK2
import Derived.Deep.Cut
import Derived.Test.YtlomhoohmcnniaaDoorK19

namespace Go.Proofs.YtlomhoohmcnniaaDoor
open Go Go.RowKit Go.Proofs
attribute [local go_sem] Oper.semAt_some

theorem cov_lt {R : List DP.St} (hR : R.length ≤ 14) {p : Nat × Nat} (hp : p ∈ PO.covs (DP.ordD R)) : p.1 < R.length ∧ p.2 < R.length := by
  obtain ⟨a, b⟩ := p
  have h := (PO.covs_mem (DP.ordD_cl hR).small a b).1 hp
  have h2 := DP.hb_lt hR (show DP.hb R a b = true from h.1)
  exact ⟨by omega, h2.2⟩
def keepR (R : List DP.St) (p : Nat × Nat) : Bool := !DP.feedsAt R p.1 p.2
theorem filt_next {α : Type} {l : List α} {P : α → Bool} {k : Nat} {x : α} (h : l[k]? = some x) : (l.take (k + 1)).filter P = (l.take k).filter P ++ (if P x then [x] else []) := by
  rw [List.take_add_one, h, List.filter_append]
  congr 1
  cases hp : P x <;> simp [hp]
theorem covs_len_le {R : List DP.St} (hR : R.length ≤ 14) : (PO.covs (DP.ordD R)).length ≤ 196 := by
  have h := covTo_len (DP.ordD R) (DP.ordD R).length
  have hl := DP.ordD_len hR
  have e : covTo (DP.ordD R) (DP.ordD R).length = PO.covs (DP.ordD R) := rfl
  rw [e, hl] at h
  exact Nat.le_trans h (Nat.mul_le_mul hR hR)
set_option maxRecDepth 100000 in
set_option maxHeartbeats 8000000 in
theorem race_any {w : World} {A : Option Addr} {m c : Nat} {R : List DP.St} (hR : Run w A m c R) (hm : m ≤ 14) (hT : Tab w) :
    Calls Tryd.prog 20 #[.slice A m c] w fun e w' => ∃ A' c', e = .returned (.slice A' (DP.races R).length c') ∧ OwnP w' w.heap.size (.slice A' (DP.races R).length c') (DP.races R) ∧ Below w.heap.size w w' := by
  have hlen : R.length = m := hR.sl.len
  have hR14 : R.length ≤ 14 := by omega
  have HO := Lib.hid (order_any hR hm hT)
  have HR := Lib.hid hR
  have HT := Lib.hid hT
  have htl := hT.lt
  obtain ⟨i0, hi0, hz0, hzz1, hz2⟩ := info_parts info_pr
  obtain ⟨cov, hcov⟩ : ∃ l, PO.covs (DP.ordD R) = l := ⟨_, rfl⟩
  have hrs : DP.races R = cov.filter (keepR R) := by rw [← hcov, ← DP.covs_filter R hR14]; rfl
  have hcl : cov.length ≤ 196 := by rw [← hcov]; exact covs_len_le hR14
  have HLT := Lib.hid (show ∀ p ∈ cov, p.1 < m ∧ p.2 < m from fun p hp => by
    have := cov_lt hR14 (p := p) (by rw [hcov]; exact hp)
    omega)
  have HRS := Lib.hid hrs
  have HLEN := Lib.hid hlen
  have HCV : Hid (∀ (V : World) (p : Nat), Below w.heap.size w V → Od V V.heap.size p (DP.ordD R) → Calls Tryd.prog 26 #[.pointer (some ⟨p, 0, none⟩)] V fun e w' => ∃ v, e = .returned v ∧ OwnP w' V.heap.size v cov ∧ Below V.heap.size V w') := fun V p hV ho => by
    rw [← hcov]
    exact covers_any ho hR14 (hT.below htl hV) (Nat.le_refl _)
  rw [hrs]
  clear hR hT hrs hcov hlen hR14
  go_enter Tryd.func20, Tryd.ntmps20
  go_wp2_with (first
    | (go_at_call 11
       refine HO.out.mono ?_
       clear HO
       rintro e w1 ⟨p, rfl, ho1, hb1⟩
       have HC := Lib.hid (HCV.out w1 p hb1 ho1)
       have HB1 := Lib.hid hb1
       clear ho1 hb1)
    | (go_at_call 26
       refine HC.out.mono ?_
       clear HC
       rintro e w2 ⟨v, rfl, ho2, hb2⟩
       obtain ⟨A2, c2, rfl⟩ := ownP_form ho2
       have HE := Lib.hid (edg_of_own ho2)
       have HB2 := Lib.hid (HB1.out.trans (hb2.mono HB1.out.size))
       clear ho2 hb2))
  clear HCV HB1
  go_loopw [3, 10] (fun o i V => ∃ k : Nat, i = .int .i64 (k : Int) ∧ k ≤ cov.length ∧ (∃ B r, o = .slice B ((cov.take k).filter (keepR R)).length r) ∧ Hid (OwnP V w2.heap.size o ((cov.take k).filter (keepR R))) ∧ Hid (Below w2.heap.size w2 V)) (fun _ i _ => cov.length - (intOf i).toNat)
  case atStart => exact ⟨0, rfl, Nat.zero_le _, ⟨none, 0, rfl⟩, World.ownsRow_nil _ _ _ _, Below.refl _ _⟩
  case round =>
    obtain ⟨k, rfl, hk, ⟨B, r, rfl⟩, ho, hbl⟩ := hrel
    have hsb := hbl.out.size
    by_cases hkn : k < cov.length
    · obtain ⟨bc, off, xa, xb, hA2, hbc, hp, e0, e1⟩ := (HE.out.below hbl.out).at_ hkn
      subst hA2
      obtain ⟨⟨a, b⟩, hab⟩ : ∃ q, cov[k]? = some q := ⟨_, List.getElem?_eq_getElem hkn⟩
      have hpe : (iP cov)[k]? = some ((a : Int), (b : Int)) := by unfold iP; rw [List.getElem?_map, hab]; rfl
      rw [hpe] at hp
      injection hp with hp
      injection hp with ha hb
      subst ha hb
      obtain ⟨hla, hlb⟩ := HLT.out _ (List.mem_of_getElem? hab)
      simp only at hla hlb
      have hnx := filt_next (P := keepR R) hab
      have hRV := (HR.out.keep HB2.out).keep hbl.out
      obtain ⟨sa, hsa⟩ : ∃ s, R[a]? = some s := ⟨_, List.getElem?_eq_getElem (by rw [HLEN.out]; exact hla)⟩
      obtain ⟨sb, hsb2⟩ : ∃ s, R[b]? = some s := ⟨_, List.getElem?_eq_getElem (by rw [HLEN.out]; exact hlb)⟩
      obtain ⟨g, hg, hgl, hda, hia⟩ := hRV.at_ hsa
      obtain ⟨g', hg', _, hdb, hib⟩ := hRV.at_ hsb2
      rw [hg] at hg'
      injection hg' with hg'
      injection hg' with hg'
      subst hg'
      subst hg
      have hfe : keepR R (a, b) = !DP.feeds sa sb := by unfold keepR; rw [DP.feedsAt_eq hsa hsb2]
      rw [hfe] at hnx
      obtain ⟨V1, hV1⟩ : ∃ U, wr.alloc (.cells #[.int .i64 (a : Int), .int .i64 (b : Int)] 42) = U := ⟨_, rfl⟩
      have hb1 : Below wr.heap.size wr V1 := by rw [← hV1]; exact (Below.refl _ _).alloc (Nat.le_refl _) _
      have hbx : V1.heap[wr.heap.size]? = some (.cells #[.int .i64 (a : Int), .int .i64 (b : Int)] 42 (0, 0)) := by rw [← hV1]; exact World.alloc_heap_new wr _
      have HF : Hid (∀ V, Below V1.heap.size V1 V → Calls Tryd.prog 34 #[stV sa, stV sb] V fun e w' => e = .returned (.bool (DP.feeds sa sb)) ∧ Below V.heap.size V w') := fun V hV => feeds_any sa sb V ((hia.keep hb1).keep hV).ms hia.ml
      obtain ⟨y, hy⟩ : ∃ y, DP.feeds sa sb = y := ⟨_, rfl⟩
      rw [hy] at HF hnx
      have HDA := Lib.hid (hda.keep hgl hb1)
      have HDB := Lib.hid (hdb.keep hgl hb1)
      have HBX := Lib.hid hbx
      have HNX := Lib.hid hnx
      have hgl1 := Nat.lt_of_lt_of_le hgl hb1.size
      have HBL1 := Lib.hid (hbl.out.trans (hb1.mono hbl.out.size))
      have HO1 := Lib.hid (hV1 ▸ World.ownsRow.alloc ho.out _ : OwnP V1 w2.heap.size (.slice B ((cov.take k).filter (keepR R)).length r) ((cov.take k).filter (keepR R)))
      have hfl : ((cov.take k).filter (keepR R)).length ≤ 196 := Nat.le_trans (List.length_filter_le _ _) (by rw [List.length_take]; omega)
      clear hpe hab hnx hfe hda hdb hia hib hRV hsa hsb2 hb1 hbx hy ho hbl hgl
      go_upto_region 5 with (fail)
      clear hV1 e0 e1
      refine RgX.region 12 (fun i => ( 14 + i)) (fun ix_ => match ix_ with | 0 => .v (.slice (some ⟨g, 0, none⟩) m c) | 1 => .v (.pointer (some ⟨wr.heap.size, 0, none⟩)) | 2 => .v (.int .i64 (a : Int)) | 3 => .v (.pointer (some ⟨g, a * 11, none⟩)) | 4 => .v (.agg #[.int .i64 sa.ev.k, .int .i64 sa.ev.n, .int .i64 sa.ev.a, .int .i64 sa.ev.m.c, .int .i64 sa.ev.m.h, .int .i64 sa.ev.m.t, .int .i64 sa.ev.m.i, .int .i64 sa.ev.m.p, .slice sa.qB sa.qs.length sa.qc, .bool sa.ob, .slice sa.sB sa.ms.length sa.sc]) | 5 => .v (.slice (some ⟨g, 0, none⟩) m c) | 6 => .v (.pointer (some ⟨wr.heap.size, 1, none⟩)) | 7 => .v (.int .i64 (b : Int)) | 8 => .v (.pointer (some ⟨g, b * 11, none⟩)) | 9 => .v (.agg #[.int .i64 sb.ev.k, .int .i64 sb.ev.n, .int .i64 sb.ev.a, .int .i64 sb.ev.m.c, .int .i64 sb.ev.m.h, .int .i64 sb.ev.m.t, .int .i64 sb.ev.m.i, .int .i64 sb.ev.m.p, .slice sb.qB sb.qs.length sb.qc, .bool sb.ob, .slice sb.sB sb.ms.length sb.sc]) | 10 => .v (.bool y) | 11 => .v (.bool (!y)) | _ => .any) (by kernel_rfl) rfl (by kernel_rfl)  (fun i hi => by show ( 14 + i) < 32; (repeat' split) <;> omega) (fun i j hi hj => by show ( 14 + i) = ( 14 + j) → i = j; (repeat' split) <;> omega) ?step ?fin
      case step =>
        intro L_ A_ w3 ix op_ hI ho hdep
        have hi : ix < 12 := (Array.getElem?_eq_some_iff.1 ho).1
        have hcase : ix = 0 ∨ ix = 1 ∨ ix = 2 ∨ ix = 3 ∨ ix = 4 ∨ ix = 5 ∨ ix = 6 ∨ ix = 7 ∨ ix = 8 ∨ ix = 9 ∨ ix = 10 ∨ ix = 11 := by omega
        have hh := hI.held
        clear hi
        rcases hcase with rfl | rfl | rfl | rfl | rfl | rfl | rfl | rfl | rfl | rfl | rfl | rfl
        · simp only [List.getElem?_toArray, List.getElem?_cons_zero, Option.some.injEq] at ho
          subst ho
          refine ⟨rfl, ?_⟩
          have e0 : A_.tmps[0]?.getD undef = .slice (some ⟨g, 0, none⟩) m c := by rw [hI.low 0 (by decide)]; rfl
          clear hI hdep
          exact .run rfl (.slice (some ⟨g, 0, none⟩) m c) w3 (by simp [execOp, go_sem, Act.eval, e0]) (Below.refl _ _) rfl
        · simp only [List.getElem?_toArray, List.getElem?_cons_succ, List.getElem?_cons_zero, Option.some.injEq] at ho
          subst ho
          refine ⟨rfl, ?_⟩
          have e5 : A_.tmps[5]?.getD undef = .pointer (some ⟨wr.heap.size, 0, none⟩) := by rw [hI.low 5 (by decide)]; rfl
          clear hI hdep
          exact .run rfl (.pointer (some ⟨wr.heap.size, 0, none⟩)) w3 (by simp [execOp, go_sem, Act.eval, e5]) (Below.refl _ _) rfl
        · simp only [List.getElem?_toArray, List.getElem?_cons_succ, List.getElem?_cons_zero, Option.some.injEq] at ho
          subst ho
          refine ⟨rfl, ?_⟩
          have e15 : A_.tmps[15]?.getD undef = .pointer (some ⟨wr.heap.size, 0, none⟩) := getD_of (hI.val_ (i := 1) rfl rfl (by decide) (hdep ⟨1, .data⟩ (by simp) rfl))
          clear hI hdep
          have d0 := cell_of_row w3 _ 0 _ _ (0, 0) ((hh.block _ (heap_lt HBX.out)).trans HBX.out); have d1 := cell_of_row w3 _ 1 _ _ (0, 0) ((hh.block _ (heap_lt HBX.out)).trans HBX.out); simp only [List.getElem?_toArray, List.getElem?_cons_zero, List.getElem?_cons_succ] at d0 d1
          exact .run rfl (.int .i64 (a : Int)) w3 (by simp [execOp, go_sem, Act.eval, *]) (Below.refl _ _) rfl
        · simp only [List.getElem?_toArray, List.getElem?_cons_succ, List.getElem?_cons_zero, Option.some.injEq] at ho
          subst ho
          refine ⟨rfl, ?_⟩
          have e14 : A_.tmps[14]?.getD undef = .slice (some ⟨g, 0, none⟩) m c := getD_of (hI.val_ (i := 0) rfl rfl (by decide) (hdep ⟨0, .data⟩ (by simp) rfl))
          have e16 : A_.tmps[16]?.getD undef = .int .i64 (a : Int) := getD_of (hI.val_ (i := 2) rfl rfl (by decide) (hdep ⟨2, .data⟩ (by simp) rfl))
          clear hI hdep
          exact .run rfl (.pointer (some ⟨g, a * 11, none⟩)) w3 (by simp [execOp, go_sem, Act.eval, e14, e16]; omega) (Below.refl _ _) rfl
        · simp only [List.getElem?_toArray, List.getElem?_cons_succ, List.getElem?_cons_zero, Option.some.injEq] at ho
          subst ho
          refine ⟨rfl, ?_⟩
          have e17 : A_.tmps[17]?.getD undef = .pointer (some ⟨g, a * 11, none⟩) := getD_of (hI.val_ (i := 3) rfl rfl (by decide) (hdep ⟨3, .data⟩ (by simp) rfl))
          clear hI hdep
          obtain ⟨d0, d1, d2, d3, d4, d5, d6, d7, d8, d9, d10⟩ := HDA.out.keep hgl1 hh
          exact .run rfl (.agg #[.int .i64 sa.ev.k, .int .i64 sa.ev.n, .int .i64 sa.ev.a, .int .i64 sa.ev.m.c, .int .i64 sa.ev.m.h, .int .i64 sa.ev.m.t, .int .i64 sa.ev.m.i, .int .i64 sa.ev.m.p, .slice sa.qB sa.qs.length sa.qc, .bool sa.ob, .slice sa.sB sa.ms.length sa.sc]) w3 (by simp [execOp, go_sem, Act.eval, e17, d0, d1, d2, d3, d4, d5, d6, d7, d8, d9, d10]) (Below.refl _ _) rfl
        · simp only [List.getElem?_toArray, List.getElem?_cons_succ, List.getElem?_cons_zero, Option.some.injEq] at ho
          subst ho
          refine ⟨rfl, ?_⟩
          have e0 : A_.tmps[0]?.getD undef = .slice (some ⟨g, 0, none⟩) m c := by rw [hI.low 0 (by decide)]; rfl
          clear hI hdep
          exact .run rfl (.slice (some ⟨g, 0, none⟩) m c) w3 (by simp [execOp, go_sem, Act.eval, e0]) (Below.refl _ _) rfl
        · simp only [List.getElem?_toArray, List.getElem?_cons_succ, List.getElem?_cons_zero, Option.some.injEq] at ho
          subst ho
          refine ⟨rfl, ?_⟩
          have e5 : A_.tmps[5]?.getD undef = .pointer (some ⟨wr.heap.size, 0, none⟩) := by rw [hI.low 5 (by decide)]; rfl
          clear hI hdep
          exact .run rfl (.pointer (some ⟨wr.heap.size, 1, none⟩)) w3 (by simp [execOp, go_sem, Act.eval, e5]) (Below.refl _ _) rfl
        · simp only [List.getElem?_toArray, List.getElem?_cons_succ, List.getElem?_cons_zero, Option.some.injEq] at ho
          subst ho
          refine ⟨rfl, ?_⟩
          have e20 : A_.tmps[20]?.getD undef = .pointer (some ⟨wr.heap.size, 1, none⟩) := getD_of (hI.val_ (i := 6) rfl rfl (by decide) (hdep ⟨6, .data⟩ (by simp) rfl))
          clear hI hdep
          have d0 := cell_of_row w3 _ 0 _ _ (0, 0) ((hh.block _ (heap_lt HBX.out)).trans HBX.out); have d1 := cell_of_row w3 _ 1 _ _ (0, 0) ((hh.block _ (heap_lt HBX.out)).trans HBX.out); simp only [List.getElem?_toArray, List.getElem?_cons_zero, List.getElem?_cons_succ] at d0 d1
          exact .run rfl (.int .i64 (b : Int)) w3 (by simp [execOp, go_sem, Act.eval, *]) (Below.refl _ _) rfl
        · simp only [List.getElem?_toArray, List.getElem?_cons_succ, List.getElem?_cons_zero, Option.some.injEq] at ho
          subst ho
          refine ⟨rfl, ?_⟩
          have e19 : A_.tmps[19]?.getD undef = .slice (some ⟨g, 0, none⟩) m c := getD_of (hI.val_ (i := 5) rfl rfl (by decide) (hdep ⟨5, .data⟩ (by simp) rfl))
          have e21 : A_.tmps[21]?.getD undef = .int .i64 (b : Int) := getD_of (hI.val_ (i := 7) rfl rfl (by decide) (hdep ⟨7, .data⟩ (by simp) rfl))
          clear hI hdep
          exact .run rfl (.pointer (some ⟨g, b * 11, none⟩)) w3 (by simp [execOp, go_sem, Act.eval, e19, e21]; omega) (Below.refl _ _) rfl
        · simp only [List.getElem?_toArray, List.getElem?_cons_succ, List.getElem?_cons_zero, Option.some.injEq] at ho
          subst ho
          refine ⟨rfl, ?_⟩
          have e22 : A_.tmps[22]?.getD undef = .pointer (some ⟨g, b * 11, none⟩) := getD_of (hI.val_ (i := 8) rfl rfl (by decide) (hdep ⟨8, .data⟩ (by simp) rfl))
          clear hI hdep
          obtain ⟨d0, d1, d2, d3, d4, d5, d6, d7, d8, d9, d10⟩ := HDB.out.keep hgl1 hh
          exact .run rfl (.agg #[.int .i64 sb.ev.k, .int .i64 sb.ev.n, .int .i64 sb.ev.a, .int .i64 sb.ev.m.c, .int .i64 sb.ev.m.h, .int .i64 sb.ev.m.t, .int .i64 sb.ev.m.i, .int .i64 sb.ev.m.p, .slice sb.qB sb.qs.length sb.qc, .bool sb.ob, .slice sb.sB sb.ms.length sb.sc]) w3 (by simp [execOp, go_sem, Act.eval, e22, d0, d1, d2, d3, d4, d5, d6, d7, d8, d9, d10]) (Below.refl _ _) rfl
        · simp only [List.getElem?_toArray, List.getElem?_cons_succ, List.getElem?_cons_zero, Option.some.injEq] at ho
          subst ho
          refine ⟨rfl, ?_⟩
          have e18 : A_.tmps[18]?.getD undef = .agg #[.int .i64 sa.ev.k, .int .i64 sa.ev.n, .int .i64 sa.ev.a, .int .i64 sa.ev.m.c, .int .i64 sa.ev.m.h, .int .i64 sa.ev.m.t, .int .i64 sa.ev.m.i, .int .i64 sa.ev.m.p, .slice sa.qB sa.qs.length sa.qc, .bool sa.ob, .slice sa.sB sa.ms.length sa.sc] := getD_of (hI.val_ (i := 4) rfl rfl (by decide) (hdep ⟨4, .data⟩ (by simp) rfl))
          have e23 : A_.tmps[23]?.getD undef = .agg #[.int .i64 sb.ev.k, .int .i64 sb.ev.n, .int .i64 sb.ev.a, .int .i64 sb.ev.m.c, .int .i64 sb.ev.m.h, .int .i64 sb.ev.m.t, .int .i64 sb.ev.m.i, .int .i64 sb.ev.m.p, .slice sb.qB sb.qs.length sb.qc, .bool sb.ob, .slice sb.sB sb.ms.length sb.sc] := getD_of (hI.val_ (i := 9) rfl rfl (by decide) (hdep ⟨9, .data⟩ (by simp) rfl))
          clear hI hdep
          exact .call rfl 34 #[.agg #[.int .i64 sa.ev.k, .int .i64 sa.ev.n, .int .i64 sa.ev.a, .int .i64 sa.ev.m.c, .int .i64 sa.ev.m.h, .int .i64 sa.ev.m.t, .int .i64 sa.ev.m.i, .int .i64 sa.ev.m.p, .slice sa.qB sa.qs.length sa.qc, .bool sa.ob, .slice sa.sB sa.ms.length sa.sc], .agg #[.int .i64 sb.ev.k, .int .i64 sb.ev.n, .int .i64 sb.ev.a, .int .i64 sb.ev.m.c, .int .i64 sb.ev.m.h, .int .i64 sb.ev.m.t, .int .i64 sb.ev.m.i, .int .i64 sb.ev.m.p, .slice sb.qB sb.qs.length sb.qc, .bool sb.ob, .slice sb.sB sb.ms.length sb.sc]] (by simp [go_sem, Act.eval, e18, e23]) ((HF.out w3 hh).mono fun _ _ ⟨h1_, h2_⟩ => ⟨⟨_, h1_, rfl⟩, h2_⟩)
        · simp only [List.getElem?_toArray, List.getElem?_cons_succ, List.getElem?_cons_zero, Option.some.injEq] at ho
          subst ho
          refine ⟨rfl, ?_⟩
          have e24 : A_.tmps[24]?.getD undef = .bool y := getD_of (hI.val_ (i := 10) rfl rfl (by decide) (hdep ⟨10, .data⟩ (by simp) rfl))
          clear hI hdep
          exact .run rfl (.bool (!y)) w3 (by simp [execOp, go_sem, Act.eval, e24]) (Below.refl _ _) rfl
      case fin =>
      intro A_ w3 hs hd hlow hS hok
      obtain rfl : A_ = ⟨#[.slice (some ⟨g, 0, none⟩) m c, undef, .slice none 0 0, .slice B (List.filter (keepR R) (List.take k cov)).length r, undef, .pointer (some ⟨wr.heap.size, 0, none⟩), .slice (some ⟨g, 0, none⟩) m c, .pointer (some ⟨p, 0, none⟩), .slice (some { block := bc, off := off }) cov.length c2, .int .i64 (cov.length : Int), .int .i64 (k : Int), .bool true, .pointer (some { block := bc, off := off + k * 2 }), .agg #[.int .i64 (a : Int), .int .i64 (b : Int)], .slice (some ⟨g, 0, none⟩) m c, .pointer (some ⟨wr.heap.size, 0, none⟩), .int .i64 (a : Int), .pointer (some ⟨g, a * 11, none⟩), .agg #[.int .i64 sa.ev.k, .int .i64 sa.ev.n, .int .i64 sa.ev.a, .int .i64 sa.ev.m.c, .int .i64 sa.ev.m.h, .int .i64 sa.ev.m.t, .int .i64 sa.ev.m.i, .int .i64 sa.ev.m.p, .slice sa.qB sa.qs.length sa.qc, .bool sa.ob, .slice sa.sB sa.ms.length sa.sc], .slice (some ⟨g, 0, none⟩) m c, .pointer (some ⟨wr.heap.size, 1, none⟩), .int .i64 (b : Int), .pointer (some ⟨g, b * 11, none⟩), .agg #[.int .i64 sb.ev.k, .int .i64 sb.ev.n, .int .i64 sb.ev.a, .int .i64 sb.ev.m.c, .int .i64 sb.ev.m.h, .int .i64 sb.ev.m.t, .int .i64 sb.ev.m.i, .int .i64 sb.ev.m.p, .slice sb.qB sb.qs.length sb.qc, .bool sb.ob, .slice sb.sB sb.ms.length sb.sc], .bool y, .bool (!y), u26, u27, u28, u29, u30, undef], []⟩ := act_ext hd hs (fun j hj => match j, hj with | 0, _ => (hlow 0 (by decide)).trans rfl | 1, _ => (hlow 1 (by decide)).trans rfl | 2, _ => (hlow 2 (by decide)).trans rfl | 3, _ => (hlow 3 (by decide)).trans rfl | 4, _ => (hlow 4 (by decide)).trans rfl | 5, _ => (hlow 5 (by decide)).trans rfl | 6, _ => (hlow 6 (by decide)).trans rfl | 7, _ => (hlow 7 (by decide)).trans rfl | 8, _ => (hlow 8 (by decide)).trans rfl | 9, _ => (hlow 9 (by decide)).trans rfl | 10, _ => (hlow 10 (by decide)).trans rfl | 11, _ => (hlow 11 (by decide)).trans rfl | 12, _ => (hlow 12 (by decide)).trans rfl | 13, _ => (hlow 13 (by decide)).trans rfl | 14, _ => RgX.val_at (hok 0 14 _ (by decide) rfl rfl) | 15, _ => RgX.val_at (hok 1 15 _ (by decide) rfl rfl) | 16, _ => RgX.val_at (hok 2 16 _ (by decide) rfl rfl) | 17, _ => RgX.val_at (hok 3 17 _ (by decide) rfl rfl) | 18, _ => RgX.val_at (hok 4 18 _ (by decide) rfl rfl) | 19, _ => RgX.val_at (hok 5 19 _ (by decide) rfl rfl) | 20, _ => RgX.val_at (hok 6 20 _ (by decide) rfl rfl) | 21, _ => RgX.val_at (hok 7 21 _ (by decide) rfl rfl) | 22, _ => RgX.val_at (hok 8 22 _ (by decide) rfl rfl) | 23, _ => RgX.val_at (hok 9 23 _ (by decide) rfl rfl) | 24, _ => RgX.val_at (hok 10 24 _ (by decide) rfl rfl) | 25, _ => RgX.val_at (hok 11 25 _ (by decide) rfl rfl) | 26, _ => (hlow 26 (by decide)).trans rfl | 27, _ => (hlow 27 (by decide)).trans rfl | 28, _ => (hlow 28 (by decide)).trans rfl | 29, _ => (hlow 29 (by decide)).trans rfl | 30, _ => (hlow 30 (by decide)).trans rfl | 31, _ => (hlow 31 (by decide)).trans rfl | n + 32, h => absurd h (by show ¬ n + 32 < 32; omega))
      clear hs hd hlow hok 
      have HS := Lib.hid hS
      have hsS := hS.size
      clear hS
      have HO3 := Lib.hid (row_keep HO1.out fun x hx => HS.out.block x (row_blk HO1.out hx).2.1 : OwnP w3 w2.heap.size (.slice B ((cov.take k).filter (keepR R)).length r) ((cov.take k).filter (keepR R)))
      have HB3 := Lib.hid (HBL1.out.trans (HS.out.mono HBL1.out.size))
      have d0 := cell_of_row w3 _ 0 _ _ (0, 0) ((HS.out.block _ (heap_lt HBX.out)).trans HBX.out)
      have d1 := cell_of_row w3 _ 1 _ _ (0, 0) ((HS.out.block _ (heap_lt HBX.out)).trans HBX.out)
      simp only [List.getElem?_toArray, List.getElem?_cons_zero, List.getElem?_cons_succ] at d0 d1
      clear HF HDA HDB HBX HO1 HS
      cases y
      · have hnx := HNX.out
        simp only [Bool.not_false, if_true] at hnx
        have HNX2 := Lib.hid hnx
        obtain ⟨V4, hV4⟩ : ∃ U, w3.alloc (.cells #[.int .i64 (a : Int), .int .i64 (b : Int)] 42) = U := ⟨_, rfl⟩
        have hb4 : Below w3.heap.size w3 V4 := by rw [← hV4]; exact (Below.refl _ _).alloc (Nat.le_refl _) _
        have hnews : ∀ j u, [nv a, nv b][j]? = some u → V4.cell? ((⟨w3.heap.size, 0, none⟩ : Addr).add j) = some u := by
          have := World.alloc_heap_new w3 (.cells #[.int .i64 (a : Int), .int .i64 (b : Int)] 42)
          rw [hV4] at this
          exact fun j u hu => World.news_of_block this j u hu
        have hown : V4.ownsRow w2.heap.size 42 2 (.slice B ((cov.take k).filter (keepR R)).length r) ((cov.take k).filter (keepR R)).length (pc ((cov.take k).filter (keepR R))) := row_keep HO3.out fun x hx => hb4.block x (row_blk HO3.out hx).2.1
        have HB4 := Lib.hid (HB3.out.trans (hb4.mono HB3.out.size))
        have hsz4 : w2.heap.size ≤ V4.heap.size := (HB3.out.trans (hb4.mono HB3.out.size)).size
        obtain ⟨L, hL⟩ : ∃ L, (cov.take k).filter (keepR R) = L := ⟨_, rfl⟩
        rw [hL] at hown hfl hnx HO3 ⊢
        have HL := Lib.hid hL
        clear hL hb4 HNX hnx
        go_wp2_with (at_builtin
                     refine wpList_append_nb rfl (.tmp 26) (.tmp 28) 40 rfl w2.heap.size 42 i0 _ 2 16 Tryd.underlying40 hi0 hz0 hzz1 hz2 rfl (by decide) _ L.length _ rfl hown ⟨w3.heap.size, 0, none⟩ 1 1 [nv a, nv b] rfl rfl hnews (by simp [nv, Value.oneCell']) (by simp only [maxLen]; omega) (by omega) hsz4 ?_
                     intro A7 c7 w7 hown7 hgr7 _
                     have HO7 := Lib.hid hown7
                     have HB7 := Lib.hid (HB4.out.grown hgr7 HB4.out.size (fun x e => (row_blk hown e).1))
                     clear hown7 hgr7)
        go_roundw
        case rel => exact ⟨k + 1, by go_num, by omega, by rw [HNX2.out, HL.out]; exact ⟨A7, c7, by simp⟩, by rw [HNX2.out, HL.out]; unfold OwnP; rw [pc_snoc, List.length_append]; exact HO7.out, HB7.out⟩
        case measure => simp [intOf]; omega
      · have hnx := HNX.out
        simp only [Bool.not_true, Bool.false_eq_true, if_false, List.append_nil] at hnx
        have HNX2 := Lib.hid hnx
        clear HNX hnx
        go_wp2_with fail
        go_roundw
        case rel => exact ⟨k + 1, by go_num, by omega, by rw [HNX2.out]; exact ⟨B, r, rfl⟩, by rw [HNX2.out]; exact HO3.out, HB3.out⟩
        case measure => simp [intOf]; omega
    · obtain rfl : k = cov.length := by omega
      have hte : (cov.take cov.length).filter (keepR R) = cov.filter (keepR R) := by rw [List.take_length]
      rw [hte] at ho ⊢
      have HB5 := Lib.hid (HB2.out.trans (hbl.out.mono HB2.out.size))
      have HO5 := Lib.hid (row_low ho.out HB2.out.size : OwnP wr w.heap.size _ _)
      obtain ⟨L, hL⟩ : ∃ L, cov.filter (keepR R) = L := ⟨_, rfl⟩
      rw [hL] at HO5 ⊢
      have HL := Lib.hid hL
      clear ho hte hL
      go_wp2_with fail
      go_ret
      rw [HL.out]
      exact ⟨B, r, rfl, HO5.out, HB5.out⟩
end Go.Proofs.YtlomhoohmcnniaaDoor

namespace Go.Proofs.YtlomhoohmcnniaaDoor
open Go Go.RowKit Go.Proofs
attribute [local go_sem] Oper.semAt_some

namespace DP
def mL : NM.Ms := ⟨0, 1, 0, 0, 0⟩
def aL (B : Option Addr) : St := ⟨⟨4, 0, 0, ⟨0, 0, 0, 0, 0⟩⟩, none, 0, [], false, B, 1, [mL]⟩
def bL : St := ⟨⟨3, 1, 0, mL⟩, none, 0, [], false, none, 0, []⟩
def cL : St := ⟨⟨4, 1, 0, ⟨0, 0, 0, 0, 0⟩⟩, none, 0, [], false, none, 0, []⟩
theorem races_L (B : Option Addr) : races [aL B, bL, cL] = [(1, 2)] := by kernel_rfl
theorem dep_ab (B : Option Addr) : dep (aL B) bL = true := by kernel_rfl
theorem dep_ac (B : Option Addr) : dep (aL B) cL = false := by kernel_rfl
end DP
set_option maxRecDepth 100000 in
set_option maxHeartbeats 4000000 in
theorem lives_any (w : World) (hT : Tab w) : Calls Tryd.prog 15 #[] w fun e w' => e = .returned (.bool true) ∧ Below w.heap.size w w' := by
  have htl := hT.lt
  obtain ⟨w1, h1⟩ : ∃ U, w.alloc (.cells #[.int .i64 0, .int .i64 1, .int .i64 0, .int .i64 0, .int .i64 0] 46) = U := ⟨_, rfl⟩
  obtain ⟨w2, h2⟩ : ∃ U, w1.alloc (.cells #[.int .i64 0, .int .i64 1, .int .i64 0, .int .i64 0, .int .i64 0] 46) = U := ⟨_, rfl⟩
  obtain ⟨w3, h3⟩ : ∃ U, w2.alloc (.cells #[.int .i64 4, .int .i64 0, .int .i64 0, .int .i64 0, .int .i64 0, .int .i64 0, .int .i64 0, .int .i64 0, .slice none 0 0, .bool false, .slice (some ⟨w.heap.size + 1, 0, none⟩) 1 1] 52) = U := ⟨_, rfl⟩
  obtain ⟨w4, h4⟩ : ∃ U, w3.alloc (.cells #[.int .i64 3, .int .i64 1, .int .i64 0, .int .i64 0, .int .i64 1, .int .i64 0, .int .i64 0, .int .i64 0, .slice none 0 0, .bool false, .slice none 0 0] 52) = U := ⟨_, rfl⟩
  obtain ⟨w5, h5⟩ : ∃ U, w4.alloc (.cells #[.int .i64 4, .int .i64 1, .int .i64 0, .int .i64 0, .int .i64 0, .int .i64 0, .int .i64 0, .int .i64 0, .slice none 0 0, .bool false, .slice none 0 0] 52) = U := ⟨_, rfl⟩
  obtain ⟨w6, h6⟩ : ∃ U, w5.alloc (.cells #[.int .i64 4, .int .i64 0, .int .i64 0, .int .i64 0, .int .i64 0, .int .i64 0, .int .i64 0, .int .i64 0, .slice none 0 0, .bool false, .slice (some ⟨w.heap.size + 1, 0, none⟩) 1 1, .int .i64 3, .int .i64 1, .int .i64 0, .int .i64 0, .int .i64 1, .int .i64 0, .int .i64 0, .int .i64 0, .slice none 0 0, .bool false, .slice none 0 0, .int .i64 4, .int .i64 1, .int .i64 0, .int .i64 0, .int .i64 0, .int .i64 0, .int .i64 0, .int .i64 0, .slice none 0 0, .bool false, .slice none 0 0] 52) = U := ⟨_, rfl⟩
  have z1 : w1.heap.size = w.heap.size + 1 := by rw [← h1]; simp
  have z2 : w2.heap.size = w.heap.size + 2 := by rw [← h2]; simp [z1]
  have z3 : w3.heap.size = w.heap.size + 3 := by rw [← h3]; simp [z2]
  have z4 : w4.heap.size = w.heap.size + 4 := by rw [← h4]; simp [z3]
  have z5 : w5.heap.size = w.heap.size + 5 := by rw [← h5]; simp [z4]
  have z6 : w6.heap.size = w.heap.size + 6 := by rw [← h6]; simp [z5]
  have al : ∀ (V : World) (o : Obj), Below V.heap.size V (V.alloc o) := fun V o => (Below.refl _ _).alloc (Nat.le_refl _) o
  have b1 : Below w.heap.size w w1 := h1 ▸ al w _
  have b2 : Below w1.heap.size w1 w2 := h2 ▸ al w1 _
  have b3 : Below w2.heap.size w2 w3 := h3 ▸ al w2 _
  have b4 : Below w3.heap.size w3 w4 := h4 ▸ al w3 _
  have b5 : Below w4.heap.size w4 w5 := h5 ▸ al w4 _
  have b6 : Below w5.heap.size w5 w6 := h6 ▸ al w5 _
  have hm2 : w2.heap[w.heap.size + 1]? = some (.cells #[.int .i64 0, .int .i64 1, .int .i64 0, .int .i64 0, .int .i64 0] 46 (0, 0)) := by rw [← h2, ← z1]; exact World.alloc_heap_new w1 _
  have ha3 : StBx w3 (w.heap.size + 2) (DP.aL (some ⟨w.heap.size + 1, 0, none⟩)) := by unfold StBx; rw [← h3, ← z2]; exact World.alloc_heap_new w2 _
  have hb4 : StBx w4 (w.heap.size + 3) DP.bL := by unfold StBx; rw [← h4, ← z3]; exact World.alloc_heap_new w3 _
  have hc5 : StBx w5 (w.heap.size + 4) DP.cL := by unfold StBx; rw [← h5, ← z4]; exact World.alloc_heap_new w4 _
  have hr6 : w6.heap[w.heap.size + 5]? = some (.cells (RS.flat stE [DP.aL (some ⟨w.heap.size + 1, 0, none⟩), DP.bL, DP.cL]).toArray 52 (0, 0)) := by rw [← h6, ← z5]; exact World.alloc_heap_new w5 _
  have b36 : Below w3.heap.size w3 w6 := (b4.trans (b5.mono b4.size)).trans (b6.mono (by omega))
  have b46 : Below w4.heap.size w4 w6 := b5.trans (b6.mono b5.size)
  have b26 : Below w2.heap.size w2 w6 := b3.trans (b36.mono b3.size)
  have hw6 : Below w.heap.size w w6 := (b1.trans (b2.mono b1.size)).trans (b26.mono (by omega))
  have hm6 := (b26.block (w.heap.size + 1) (by omega)).trans hm2
  have ha6 := ha3.keep (show w.heap.size + 2 < w3.heap.size by omega) b36
  have hb6 := hb4.keep (show w.heap.size + 3 < w4.heap.size by omega) b46
  have hc6 := hc5.keep (show w.heap.size + 4 < w5.heap.size by omega) b6
  have hia : StIn w6 (DP.aL (some ⟨w.heap.size + 1, 0, none⟩)) := ⟨RS.Sl.nil qaE w6, RS.Sl.of_own (E := msE) (base := 0) (t := 46) ⟨rfl, .inr ⟨_, 1, _, rfl, Nat.zero_le _, hm6, Nat.le_refl _, by simp [maxLen], rfl, rfl⟩⟩ rfl, (show (0 : Nat) ≤ 1000 by decide), (show (1 : Nat) ≤ 1000 by decide)⟩
  have hib : StIn w6 DP.bL := ⟨RS.Sl.nil qaE w6, RS.Sl.nil msE w6, by decide, by decide⟩
  have hic : StIn w6 DP.cL := ⟨RS.Sl.nil qaE w6, RS.Sl.nil msE w6, by decide, by decide⟩
  have hrun : Run w6 (some ⟨w.heap.size + 5, 0, none⟩) 3 3 [DP.aL (some ⟨w.heap.size + 1, 0, none⟩), DP.bL, DP.cL] := by
    refine ⟨RS.Sl.of_own (E := stE) (base := 0) (t := 52) ⟨rfl, .inr ⟨_, 3, _, rfl, Nat.zero_le _, hr6, Nat.le_refl _, by simp [maxLen], rfl, rfl⟩⟩ rfl, fun s hs => ?_, by decide⟩
    simp only [List.mem_cons, List.not_mem_nil, or_false] at hs
    rcases hs with rfl | rfl | rfl
    · exact hia
    · exact hib
    · exact hic
  have hrace := race_any hrun (by omega) (hT.below htl hw6)
  rw [DP.races_L] at hrace
  have HRC := Lib.hid hrace
  have HAB : Hid (∀ V, Below w6.heap.size w6 V → Calls Tryd.prog 22 #[stV (DP.aL (some ⟨w.heap.size + 1, 0, none⟩)), stV DP.bL] V fun e w' => e = .returned (.bool true) ∧ Below V.heap.size V w') := fun V hV => by
    have := dependent_any _ _ V (hia.keep hV) (hib.keep hV)
    rwa [DP.dep_ab] at this
  have HAC : Hid (∀ V, Below w6.heap.size w6 V → Calls Tryd.prog 22 #[stV (DP.aL (some ⟨w.heap.size + 1, 0, none⟩)), stV DP.cL] V fun e w' => e = .returned (.bool false) ∧ Below V.heap.size V w') := fun V hV => by
    have := dependent_any _ _ V (hia.keep hV) (hic.keep hV)
    rwa [DP.dep_ac] at this
  have HW6 := Lib.hid hw6
  have HA6 := Lib.hid ha6
  have HB6 := Lib.hid hb6
  have HC6 := Lib.hid hc6
  have a5 := (ha3.keep (show w.heap.size + 2 < w3.heap.size by omega) (b4.trans (b5.mono b4.size))).cells
  have a5b := (hb4.keep (show w.heap.size + 3 < w4.heap.size by omega) b5).cells
  have a5c := hc5.cells
  have H1 := Lib.hid h1
  have H2 := Lib.hid h2
  have H3 := Lib.hid h3
  have H4 := Lib.hid h4
  have H5 := Lib.hid h5
  have H6 := Lib.hid h6
  clear h1 h2 h3 h4 h5 h6 b1 b2 b3 b4 b5 b6 al hm2 ha3 hb4 hc5 hr6 b36 b46 b26 hw6 hm6 ha6 hb6 hc6 hia hib hic hrun hrace hT z1 z2 z3 z4
  have heq := fun V => eqP_any 1 2 1 2 V
  go_enter Tryd.func15, Tryd.ntmps15
  go_upto_region 5 with (fail)
  rw [H1.out, H2.out, H3.out, H4.out, H5.out]
  have h6 := H6.out
  unfold DP.aL DP.mL at a5
  unfold DP.bL DP.mL at a5b
  unfold DP.cL at a5c
  obtain ⟨p0, p1, p2, p3, p4, p5, p6, p7, p8, p9, p10⟩ := a5
  obtain ⟨q0, q1, q2, q3, q4, q5, q6, q7, q8, q9, q10⟩ := a5b
  obtain ⟨r0, r1, r2, r3, r4, r5, r6, r7, r8, r9, r10⟩ := a5c
  go_upto_region 6 with (go_at_call 20
                         refine HRC.out.mono ?_
                         clear HRC
                         rintro e w7 ⟨A7, c7, rfl, ho7, hb7⟩
                         have HO7 := Lib.hid ho7
                         have HB7 := Lib.hid hb7
                         clear ho7 hb7)
  clear p0 p1 p2 p3 p4 p5 p6 p7 p8 p9 p10 q0 q1 q2 q3 q4 q5 q6 q7 q8 q9 q10 r0 r1 r2 r3 r4 r5 r6 r7 r8 r9 r10 h6 H1 H2 H3 H4 H5 H6 z5
  have HK : Hid (∀ V, Below w7.heap.size w7 V → (StBx V (w.heap.size + 2) (DP.aL (some ⟨w.heap.size + 1, 0, none⟩)) ∧ StBx V (w.heap.size + 3) DP.bL ∧ StBx V (w.heap.size + 4) DP.cL) ∧ ∃ g, A7 = some ⟨g, 0, none⟩ ∧ V.cell? ⟨g, 0, none⟩ = some (.int .i64 1) ∧ V.cell? ⟨g, 1, none⟩ = some (.int .i64 2)) := fun V hV => by
    have hs7 := HB7.out.size
    have k := fun {b : Nat} {s : DP.St} (h : StBx w6 b s) (hb : b < w6.heap.size) => (h.keep hb HB7.out).keep (show b < w7.heap.size by omega) hV
    refine ⟨⟨k HA6.out (by omega), k HB6.out (by omega), k HC6.out (by omega)⟩, ?_⟩
    obtain ⟨b, off, x, y, e, hb, hp, c0, c1⟩ := (edg_of_own HO7.out).at_ (show 0 < [((1 : Nat), (2 : Nat))].length by decide)
    have hp2 : some ((1 : Int), (2 : Int)) = some (x, y) := hp
    injection hp2 with hp2
    injection hp2 with hx hy
    subst hx hy
    rcases HO7.out.2 with ⟨e3, _⟩ | ⟨g, cap, cur, e3, _⟩
    · injection e3 with e3
      rw [e] at e3
      cases e3
    · injection e3 with e3
      rw [e] at e3
      injection e3 with e3
      injection e3 with e3 e4
      subst e3 e4
      rw [e]
      exact ⟨_, rfl, (hV.cell (p := ⟨_, 0 + 0 * 2, none⟩) hb).trans c0, (hV.cell (p := ⟨_, 0 + 0 * 2 + 1, none⟩) hb).trans c1⟩
  obtain ⟨⟨ka, kb, kc⟩, g, hA7, g0, g1⟩ := HK.out w7 (Below.refl _ _)
  subst hA7
  have a5 := ka.cells
  have a5b := kb.cells
  have a5c := kc.cells
  unfold DP.aL DP.mL at a5
  unfold DP.bL DP.mL at a5b
  unfold DP.cL at a5c
  obtain ⟨p0, p1, p2, p3, p4, p5, p6, p7, p8, p9, p10⟩ := a5
  obtain ⟨q0, q1, q2, q3, q4, q5, q6, q7, q8, q9, q10⟩ := a5b
  obtain ⟨r0, r1, r2, r3, r4, r5, r6, r7, r8, r9, r10⟩ := a5c
  clear ka kb kc
  have h67 := HB7.out.size
  go_wp2_with (first
    | (go_at_call 22
       refine (HAB.out w7 HB7.out).mono ?_
       clear HAB
       rintro e w8 ⟨rfl, hb8⟩
       obtain ⟨⟨ka, kb, kc⟩, g', hA8, g0', g1'⟩ := HK.out w8 hb8
       injection hA8 with hA8
       injection hA8 with hA8
       subst hA8
       have a6 := ka.cells
       have a6c := kc.cells
       unfold DP.aL DP.mL at a6
       unfold DP.cL at a6c
       obtain ⟨s0, s1, s2, s3, s4, s5, s6, s7, s8, s9, s10⟩ := a6
       obtain ⟨t0, t1, t2, t3, t4, t5, t6, t7, t8, t9, t10⟩ := a6c
       have HB8 := Lib.hid hb8
       have H8 := Lib.hid (HB7.out.trans (hb8.mono HB7.out.size))
       clear ka kb kc hb8)
    | (go_at_call 22
       refine (HAC.out _ H8.out).mono ?_
       clear HAC
       rintro e w9 ⟨rfl, hb9⟩
       obtain ⟨_, g', hA9, g2', g3'⟩ := HK.out w9 (HB8.out.trans (hb9.mono HB8.out.size))
       injection hA9 with hA9
       injection hA9 with hA9
       subst hA9
       have HB9 := Lib.hid (HW6.out.trans ((H8.out.trans (hb9.mono H8.out.size)).mono HW6.out.size))
       clear hb9))
  go_ret
  exact ⟨rfl, HB9.out⟩
end Go.Proofs.YtlomhoohmcnniaaDoor
