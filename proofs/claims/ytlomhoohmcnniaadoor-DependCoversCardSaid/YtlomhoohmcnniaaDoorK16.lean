/-
  The contract of newFrontier: the frontier of an empty list. Conditions: at most 14 elements; the library's table lies as it lay.
  The contract of leastLinear: the least order of the rows. Conditions: at most 14 elements; the library's table lies as it lay.
  slices.Backward hands back an iterator over a list's places, from the last to the first. Condition: the list's block is kept by the loop's body.
  The contract of closeUpward: the rows of the closure. Conditions: at most 14 elements; the list's members are elements; the library's table lies as it lay.
-/
import Derived.Test.YtlomhoohmcnniaaDoorK15
import Derived.Deep.WholeRow
import Derived.BigRegionIn
import Derived.Test.YtlomhoohmcnniaaDoorK12

namespace Go.Proofs.YtlomhoohmcnniaaDoor
open Go Go.RowKit Go.Proofs Go.Shelf
attribute [local go_sem] Oper.semAt_some

theorem World.drew_heap' (W : World) : W.drew.heap = W.heap := rfl
theorem zero_fr : (Tryd.prog.info? 101).map (fun i => (i.zero, i.size)) = some (some (.agg #[.slice none 0 0, .slice none 0 0, .slice none 0 0]), 3) := by kernel_rfl
theorem zero_fr_run : ∀ w, (zeroValue 101).run Tryd.prog w = .ok (.agg #[.slice none 0 0, .slice none 0 0, .slice none 0 0]) w := (zero_of_info zero_fr).1
/-- What holds between two rounds of the counting loop. -/
structure NfJ (w : World) (gf ga n gw gr k bf hm : Nat) (Ds : List Nat) (B : Int) (F : Nat → Int) (m : Nat) (V : World) : Prop where
  fr : Fr V w.heap.size gf ga n gw gr k F m
  bd : ∀ y, -B ≤ F y ∧ F y ≤ B
  box : Boxed V bf 97 (.pointer (some ⟨gf, 0, none⟩))
  bel : Below w.heap.size w V
  mks : Mks V w.heap.size hm Ds
theorem NfJ.own {w X Y : World} {gf ga n gw gr k bf hm m D : Nat} {Ds : List Nat} {B : Int} {F : Nat → Int} {row : Option Nat} (h : NfJ w gf ga n gw gr k bf hm Ds B F m X) (hm1 : hm ≤ D) (hD : w.heap.size ≤ D) (hg : X.grownBy Y row) (hr : ∀ r, row = some r → D ≤ r ∧ ∃ o : Obj, X.heap[r]? = some o ∧ o.isCells = false) : NfJ w gf ga n gw gr k bf hm Ds B F m Y :=
  ⟨h.fr.own hg fun r e => (hr r e).2, h.bd, block_own h.box hg fun r e => (hr r e).2, ownFrom_below (β := Unit) (B := D) (Nat.le_refl _) hD () X Y row h.bel hg hr, h.mks.own hm1 hg hr⟩
theorem vals_len8 {n m : Nat} {ys : List (El n)} (h : ys.map Subtype.val = PO.els m) (hm : m < 2 ^ n) (hn : n ≤ 14) : ys.length ≤ 14 := by
  have h1 := congrArg List.length h
  rw [List.length_map] at h1
  have := sub_len8 hm hn
  omega
set_option maxRecDepth 100000 in
set_option maxHeartbeats 8000000 in
theorem newFrontier_in (N : Nat) (hN : 6 ≤ N) (hi ga n : Nat) (ws R : List Nat) (w : World) (hT : Tab w) (hn : n ≤ 14) (hR : R.length = n) (hs : PO.Small R) (hA : Ab w hi ga ws R) (hlo : hi ≤ w.heap.size) :
    CallsIn Fence.wide N Tryd.prog 58 #[.slice (some ⟨ga, 0, none⟩) n n] w fun e w' => ∃ gf gw gr, e = .returned (.pointer (some ⟨gf, 0, none⟩)) ∧
      Fr w' w.heap.size gf ga n gw gr (wk n) (PO.cntF (PO.rows R) n) (PO.rdyM (PO.cntF (PO.rows R) n) n) ∧ Below w.heap.size w w' := by
  have h1 : 1 ≤ N := by omega
  have hzv := zero_fr_run
  have hmk : ∀ W : World, (Instr.makeSlice 22 (.int .i64 (n : Int)) (.int .i64 (n : Int))).run Tryd.prog W = .ok (.slice (some ⟨W.heap.size, 0, none⟩) n n) (W.alloc (.cells (Array.replicate n (.int .i64 0)) 3)) := make_ints n n (Nat.le_refl _) (by omega)
  obtain ⟨k, hk⟩ : ∃ k, wk n = k := ⟨_, rfl⟩
  have hk1 : k ≤ 1 := by rw [← hk]; exact wk_le n
  have HNS := Lib.hid (newSet_any n k hn hk)
  refine callsIn_np Tryd.func58 rfl trivial ?_ rfl
  simp only [Tryd.ntmps58, List.size_toArray, List.length_cons, List.length_nil, Nat.reduceAdd, Nat.reduceSub, Array.replicate_succ, Array.replicate_zero, List.push_toArray, List.append_toArray, List.nil_append, List.cons_append]
  gi_wp2
  refine cut_norm (fun a' W => ∃ (bf gf gw gr : Nat) (s14 : Value), a' = { tmps := #[.slice (some ⟨ga, 0, none⟩) n n, undef, .pointer none, .pointer (some ⟨bf, 0, none⟩), undef, undef, undef, .slice (some ⟨ga, 0, none⟩) n n, .slice (some ⟨ga, 0, none⟩) n n, .int .i64 n, .slice (some ⟨gw, 0, none⟩) n n, .slice (some ⟨ga, 0, none⟩) n n, .int .i64 n, .slice (some ⟨gr, 0, none⟩) k k, s14, .pointer (some ⟨gf, 0, none⟩), undef, undef, undef, undef, undef, undef, undef, undef, undef, undef, undef, undef, undef, undef, undef, undef, undef, undef, undef, undef, undef, undef, undef, undef, undef, undef, undef, undef, undef, undef, undef, undef, undef, undef, undef, undef, undef, undef, undef, undef, undef, undef], defers := [] } ∧ Fr W w.heap.size gf ga n gw gr k (fun _ => 0) 0 ∧ Boxed W bf 97 (.pointer (some ⟨gf, 0, none⟩)) ∧ Below w.heap.size w W ∧ w.heap.size ≤ bf) ?_ ?_
  · gi_region_with (refine ⟨trivial, ?_⟩; gi_at_call 39; refine (callsIn_wide.2 (HNS.out _)).mono ?_; rintro e w' ⟨rfl, rfl⟩)
    all_goals
      refine ⟨_, _, _, _, _, rfl, ⟨?_, ?_, ⟨hk1, fun _ => rfl, ?_⟩, ?_, ?_, ?_⟩, ?_, ?_, ?_⟩
      all_goals first
        | (unfold Boxed; simp only [World.drew_heap', heap_alloc_at, World.size_alloc]; (repeat rw [if_neg (by omega)]); rw [if_pos (by first | trivial | omega)]; done)
        | (simp only [World.drew_heap', heap_alloc_at, World.size_alloc]; (repeat rw [if_neg (by omega)]); rw [if_pos (by first | trivial | omega)]; done)
        | (simp only [World.drew_heap', heap_alloc_at, World.size_alloc]; (repeat rw [if_neg (by omega)]); rw [if_pos (by first | trivial | omega)]; rfl)
        | (simp only [World.drew_heap', heap_alloc_at, World.size_alloc]; (repeat rw [if_neg (by omega)]); rw [if_pos (by first | trivial | omega), rep_range]; done)
        | omega
        | (simp; omega)
        | exact (((((Below.refl _ _).alloc (Nat.le_refl _) _).alloc (by simp) _).alloc (by simp; omega) _).alloc (by simp; omega) _).drew
  · rintro a' W ⟨bf, gf, gw, gr, s14, rfl, hF, hbx, hB, hbf⟩
    have hmd : ∀ y : Nat, -(0 : Int) ≤ (fun _ => (0 : Int)) y ∧ (fun _ => (0 : Int)) y ≤ 0 := fun _ => ⟨by simp, by simp⟩
    have hJ0 : NfJ w gf ga n gw gr k bf w.heap.size [] 0 (fun _ => 0) 0 W := ⟨hF, hmd, hbx, hB, Mks.nil _ _ _⟩
    have HJ0 := Lib.hid hJ0
    clear hF hbx hB hmd hJ0
    gi_wp2
    refine wpIn_loop (fun a' V => ∃ (kk hm : Nat) (Ds : List Nat) (u4 u5 u19 u20 u21 u22 u23 u24 u25 u26 u27 u28 u29 u30 u31 u32 u33 u34 u35 u36 : Value), a' = { tmps := #[.slice (some ⟨ga, 0, none⟩) n n, undef, .pointer none, .pointer (some ⟨bf, 0, none⟩), u4, u5, undef, .slice (some ⟨ga, 0, none⟩) n n, .slice (some ⟨ga, 0, none⟩) n n, .int .i64 n, .slice (some ⟨gw, 0, none⟩) n n, .slice (some ⟨ga, 0, none⟩) n n, .int .i64 n, .slice (some ⟨gr, 0, none⟩) k k, s14, .pointer (some ⟨gf, 0, none⟩), .slice (some ⟨ga, 0, none⟩) n n, .int .i64 n, .int .i64 (kk : Int), u19, u20, u21, u22, u23, u24, u25, u26, u27, u28, u29, u30, u31, u32, u33, u34, u35, u36, undef, undef, undef, undef, undef, undef, undef, undef, undef, undef, undef, undef, undef, undef, undef, undef, undef, undef, undef, undef, undef], defers := Ds.map mkD } ∧ kk ≤ n ∧ hm ≤ V.heap.size ∧ NfJ w gf ga n gw gr k bf hm Ds (14 * kk) (PO.cntF (PO.rows R) kk) 0 V) (fun a' _ => n - (intOf (a'.tmps.getD 18 undef)).toNat) ?_ ?_
    · exact ⟨0, _, [], _, _, _, _, _, _, _, _, _, _, _, _, _, _, _, _, _, _, _, _, rfl, Nat.zero_le _, HJ0.out.bel.size, HJ0.out⟩
    rintro a' V ⟨kk, hm, Ds, u4, u5, u19, u20, u21, u22, u23, u24, u25, u26, u27, u28, u29, u30, u31, u32, u33, u34, u35, u36, rfl, hkk, hhm, hJ⟩
    by_cases hlt : kk < n
    · have hA2 := hA.below (hJ.bel.mono hlo)
      obtain ⟨g, hgw, hcg, hsg, hgh⟩ := hA2.at_ (i := kk) (by omega)
      have hRm := PO.rw_lt hs.2 kk
      have hT2 := hT.below hT.lt hJ.bel
      have hnb : PO.els (PO.rw_ R kk) = nb (PO.rows R) kk := PO.els_nb kk
      have HJ := Lib.hid hJ
      have HT2 := Lib.hid hT2
      have HS2 := Lib.hid hsg
      have HNB := Lib.hid hnb
      have hgl := hsg.lt
      have htl := hT2.lt
      clear hA2 hJ hT2 hsg HJ0 hnb
      gi_wp2_with ((first | refine ⟨trivial, fun _ => by omega, ?_⟩ | refine ⟨trivial, ?_⟩)
                   gi_at_call 45
                   refine (callsIn_wide.2 (members_any _ _ _ _)).mono ?_
                   rintro e w' ⟨rfl, rfl⟩)
      obtain ⟨W0, hW0⟩ : ∃ W0, V.alloc (.cells #[.slice (some ⟨g, 0, none⟩) 1 1] 67) = W0 := ⟨_, rfl⟩
      have hb0 : Below V.heap.size V W0 := by rw [← hW0]; exact (Below.refl _ _).alloc (Nat.le_refl _) _
      have hsz : W0.heap.size = V.heap.size + 1 := by rw [← hW0]; simp
      have cB : W0.cell? ⟨V.heap.size, 0, none⟩ = some (.slice (some ⟨g, 0, none⟩) 1 1) := by rw [← hW0]; exact (Boxed.new V 67 _).cell
      have hJ0 : NfJ w gf ga n gw gr k bf hm Ds (14 * kk) (PO.cntF (PO.rows R) kk) 0 W0 := ⟨HJ.out.fr.below hb0, HJ.out.bd, (hb0.block _ HJ.out.box.lt).trans HJ.out.box, HJ.out.bel.trans (hb0.mono HJ.out.bel.size), HJ.out.mks.below (hb0.mono hhm)⟩
      have hT0 := HT2.out.below HT2.out.lt hb0
      have hS0 := HS2.out.below HS2.out.lt hb0
      have hVs := HJ.out.bel.size
      have hgwl := HJ.out.fr.lt2
      have hgwb := HJ.out.fr.l2
      have htw := hT.lt
      rw [hW0]
      clear hW0 hcg HS2 HT2 hb0
      refine wpIn_rangeFunc_ownG rfl h1 (gf := 56) (lb := #[.pointer (some ⟨V.heap.size, 0, none⟩)]) rfl trivial (enters_of Tryd.func56 (by kernel_rfl) rfl)
        (members_stops (N - 1) (by omega) V.heap.size n 1 g (PO.rw_ R kk) (fun k => k = 0 ∨ k = V.heap.size ∨ k = g) (.inl rfl) (by rw [← hR]; exact hRm) hn W0 hT0 cB hS0)
        (fun h k => Keeps.trans h k) (fun W l o o' hl h _ _ => Keeps.putObj (m := W0.heap.size) (by rintro k (rfl | rfl | rfl) <;> omega) W l o o' hl h) (Below.refl _ _) (fun _ => rfl)
        (fun pre W => NfJ w gf ga n gw gr k bf hm Ds (14 * kk + pre.length) ((vals pre).foldl PO.stN (PO.cntF (PO.rows R) kk)) 0 W)
        (fun _ _ _ => False)
        (fun pre X Y row hJ hg hr => hJ.own (by omega) (by omega) hg hr)
        (fun _ _ _ _ _ hs _ _ => hs)
        (by rw [List.length_nil, Int.natCast_zero, Int.add_zero]; exact hJ0)
        (fun x => { tmps := #[.slice (some ⟨ga, 0, none⟩) n n, undef, .pointer none, .pointer (some ⟨bf, 0, none⟩), .int .i64 (kk : Int), .int .i64 (x.1 : Int), undef, .slice (some ⟨ga, 0, none⟩) n n, .slice (some ⟨ga, 0, none⟩) n n, .int .i64 n, .slice (some ⟨gw, 0, none⟩) n n, .slice (some ⟨ga, 0, none⟩) n n, .int .i64 n, .slice (some ⟨gr, 0, none⟩) k k, s14, .pointer (some ⟨gf, 0, none⟩), .slice (some ⟨ga, 0, none⟩) n n, .int .i64 n, .int .i64 (kk : Int), .bool true, .int .i64 (kk : Int), .slice (some ⟨ga, 0, none⟩) n n, .int .i64 (kk : Int), .pointer (some ⟨ga, kk, none⟩), .slice (some ⟨g, 0, none⟩) 1 1, .func (Fn.func 56) #[] #[.pointer (some ⟨V.heap.size, 0, none⟩)], .int .i64 (x.1 : Int), u27, u28, u29, u30, u31, u32, u33, u34, u35, u36, undef, undef, undef, undef, undef, undef, undef, undef, undef, undef, undef, undef, undef, undef, undef, undef, undef, undef, undef, undef, undef], defers := [] }) ?assign ?body ?done ?stop
      case assign =>
        intro l x W K hK
        unfold elA
        gi_wp2
        exact hK
      case body =>
        rintro l pre ⟨x, hx⟩ W hJ hlen
        obtain ⟨F, hF'⟩ : ∃ F, (vals pre).foldl PO.stN (PO.cntF (PO.rows R) kk) = F := ⟨_, rfl⟩
        have hnext : (vals (pre ++ [(⟨x, hx⟩ : El n)])).foldl PO.stN (PO.cntF (PO.rows R) kk) = PO.stN F x := by rw [vals_snoc, PO.foldl_snoc, hF']
        have hJ : NfJ w gf ga n gw gr k bf hm Ds (14 * kk + pre.length) F 0 W := by rw [← hF']; exact hJ
        have hbx0 := hJ.box.cell
        have c1 := hJ.fr.c1
        have cw := hJ.fr.cw hx
        have fw := hJ.fr.fw x
        have hbd := hJ.bd x
        obtain ⟨z, hz⟩ : ∃ z, F x = z := ⟨_, rfl⟩
        rw [hz] at cw hbd
        have hz1 := hbd.1
        have hz2 := hbd.2
        clear hbd
        have hne : bf ≠ gw := heapT_ne hJ.box hJ.fr.wt (by decide)
        have hfin : NfJ w gf ga n gw gr k bf hm Ds (14 * kk + ((pre ++ [(⟨x, hx⟩ : El n)]).length : Int)) ((vals (pre ++ [(⟨x, hx⟩ : El n)])).foldl PO.stN (PO.cntF (PO.rows R) kk)) 0 (W.setCell ⟨gw, x, none⟩ (.int .i64 (z + 1))) := by
          rw [hnext]
          unfold PO.stN
          rw [hz]
          exact ⟨hJ.fr.setw x (z + 1), by rw [List.length_append, List.length_singleton, Int.natCast_add, ← Int.add_assoc]; exact PO.upd_bd hJ.bd (by omega) (by omega), (Below.heap_setCell _ ⟨gw, x, none⟩ _ bf hne).trans hJ.box, hJ.bel.setCell (p := ⟨gw, x, none⟩) hgwb _, hJ.mks.setCell (p := ⟨gw, x, none⟩) hJ.fr.wt _⟩
        have HFIN := Lib.hid hfin
        clear hfin hz hnext hF' hJ hJ0 hT0 hS0 cB
        gi_wp2
        all_goals exact ⟨(KeepsOthers.setCell _ _ _).from _, (Keeps.refl _ _).setCell (by omega) _, HFIN.out⟩
      case done =>
        rintro D ys W hD hys hJ hK
        have hlen := vals_len8 hys (by rw [← hR]; exact hRm) hn
        rw [show vals ys = PO.els (PO.rw_ R kk) from hys, HNB.out] at hJ
        have hDl := (Array.getElem?_eq_some_iff.1 hK).1
        have hfin : NfJ w gf ga n gw gr k bf (D + 1) (D :: Ds) (14 * ((kk + 1 : Nat) : Int)) (PO.cntF (PO.rows R) (kk + 1)) 0 W :=
          ⟨hJ.fr, fun y => by have := hJ.bd y; rw [PO.cntF]; omega, hJ.box, hJ.bel, hJ.mks.cons hK (by omega) (by omega) (Nat.lt_succ_self D)⟩
        have HFIN := Lib.hid hfin
        clear hfin hJ hJ0 hT0 hS0 cB hK
        gi_wp2
        exact ⟨⟨kk + 1, D + 1, D :: Ds, _, _, _, _, _, _, _, _, _, _, _, _, _, _, _, _, _, _, _, _, by first | rfl | exact rfl, by omega, by omega, HFIN.out⟩, by simp [intOf]; omega⟩
      case stop =>
        rintro D c pre W _ _ h _
        exact h.elim
    · obtain rfl : n = kk := by omega
      have HJ := Lib.hid hJ
      have HF0 := Lib.hid (show PO.rdyM (PO.cntF (PO.rows R) n) 0 = 0 from rfl)
      obtain ⟨F, hF⟩ : ∃ F, PO.cntF (PO.rows R) n = F := ⟨_, rfl⟩
      rw [hF] at HJ HF0
      have HF := Lib.hid hF
      clear hJ hF HJ0
      gi_wp2
      gi_loopw [39] (fun i wr => ∃ j : Nat, j ≤ n ∧ i = .int .i64 (j : Int) ∧ NfJ w gf ga n gw gr k bf hm Ds (14 * n) F (PO.rdyM F j) wr) (fun i _ => n - (intOf i).toNat)
      case atStart => exact ⟨0, Nat.zero_le _, rfl, HJ.out⟩
      case round =>
        obtain ⟨j, hj, rfl, hJ⟩ := hrel
        have hbx0 := hJ.box.cell
        by_cases hlt : j < n
        · obtain rfl : k = 1 := by rw [← hk]; exact wk_pos (by omega)
          have c1 := hJ.fr.c1
          have c2 := hJ.fr.c2
          have cw := hJ.fr.cw hlt
          have hml : PO.rdyM F j < 2 ^ n := PO.rdyM_lt F j hj
          have hm8 := lt256 hml hn
          have hne : bf ≠ gr := heapT_ne hJ.box hJ.fr.rd.2.2 (by decide)
          have hadd := add_any gr (PO.rdyM F j) j wr hJ.fr.rd (by omega) hm8
          have hfin : NfJ w gf ga n gw gr 1 bf hm Ds (14 * n) F (PO.rdyM F j ||| 2 ^ j) ((wr.setCell ⟨gr, 0, none⟩ (.int .u64 ((PO.rdyM F j ||| 2 ^ j : Nat) : Int))).drew) :=
            ⟨(hJ.fr.setr _).keep rfl rfl rfl, hJ.bd, (Below.heap_setCell _ ⟨gr, 0, none⟩ _ bf hne).trans hJ.box, (hJ.bel.setCell (p := ⟨gr, 0, none⟩) hJ.fr.l3 _).drew, (hJ.mks.setCell (p := ⟨gr, 0, none⟩) hJ.fr.rd.2.2 _).drew⟩
          have HFIN := Lib.hid hfin
          have HADD := Lib.hid hadd
          have HJ2 := Lib.hid hJ
          have HST := Lib.hid (show PO.rdyM F (j + 1) = if F j = 0 then PO.rdyM F j ||| 2 ^ j else PO.rdyM F j from rfl)
          obtain ⟨m, hm'⟩ : ∃ m, PO.rdyM F j = m := ⟨_, rfl⟩
          rw [hm'] at HFIN HADD HJ2 HST
          obtain ⟨z, hz⟩ : ∃ z, F j = z := ⟨_, rfl⟩
          rw [hz] at cw HST
          clear hJ hfin hadd hm' hm8 hml hz
          by_cases hz0 : z = 0
          · have hzt : (z == 0) = true := by simp [hz0]
            have HST2 := Lib.hid (HST.out.trans (if_pos hz0))
            clear hz0 HST
            gi_wp2_with ((first | refine ⟨trivial, fun _ => by omega, ?_⟩ | refine ⟨trivial, ?_⟩)
                         gi_at_call 41
                         refine (callsIn_wide.2 HADD.out).mono ?_
                         rintro e w' ⟨⟨v', rfl⟩, rfl⟩)
            go_roundw
            case rel => exact ⟨j + 1, by omega, by go_num, by rw [HST2.out]; exact HFIN.out⟩
            case measure => simp [intOf]; omega
          · have hzt : (z == 0) = false := by simp [hz0]
            have HST2 := Lib.hid (HST.out.trans (if_neg hz0))
            clear hz0 HST
            gi_wp2
            go_roundw
            case rel => exact ⟨j + 1, by omega, by go_num, by rw [HST2.out]; exact HJ2.out⟩
            case measure => simp [intOf]; omega
        · obtain rfl : n = j := by omega
          have HJ2 := Lib.hid hJ
          clear hJ
          gi_wp2
          refine HJ2.out.mks.leave fun W' ht => ⟨_, results_tmp rfl _ _ _, gf, gw, gr, rfl, ?_, ht.below HJ2.out.mks HJ2.out.bel⟩
          rw [hk, HF.out]
          have hfr := HJ2.out.fr
          exact ⟨ht.cells HJ2.out.mks hfr.fr, ht.cells HJ2.out.mks hfr.wt, ⟨hfr.rd.1, hfr.rd.2.1, ht.cells HJ2.out.mks hfr.rd.2.2⟩, hfr.l1, hfr.l2, hfr.l3⟩
end Go.Proofs.YtlomhoohmcnniaaDoor

namespace Go.Proofs.YtlomhoohmcnniaaDoor
open Go Go.RowKit Go.Proofs Go.Shelf
attribute [local go_sem] Oper.semAt_some

/-- The frontier when d is the list. -/
abbrev FrAt (W : World) (lo gf ga n gw gr k : Nat) (R d : List Nat) : Prop := Fr W lo gf ga n gw gr k (PO.kF (PO.rows R) d) (PO.kM (PO.rows R) d)
theorem Fr.congr {W : World} {lo gf ga n gw gr k m m' : Nat} {F F' : Nat → Int} (h : Fr W lo gf ga n gw gr k F m) (hF : ∀ x, x < n → F x = F' x) (hm : m = m') : Fr W lo gf ga n gw gr k F' m' := by
  subst hm
  refine ⟨h.fr, ?_, h.rd, h.l1, h.l2, h.l3⟩
  rw [h.wt]
  congr 3
  exact List.map_congr_left fun x hx => by rw [hF x (List.mem_range.1 hx)]
theorem Fr.st {W : World} {lo gf ga n gw gr k m : Nat} {F : Nat → Int} {R d : List Nat} (h : Fr W lo gf ga n gw gr k F m) (hR : R.length = n) (hf : PO.FSt (PO.rows R) d F m) : FrAt W lo gf ga n gw gr k R d :=
  h.congr (fun x hx => hf.wait x (by rw [PO.rows_len, hR]; exact hx)) hf.mask
theorem newFrontier_st (N : Nat) (hN : 6 ≤ N) (hi ga n : Nat) (ws R : List Nat) (w : World) (hT : Tab w) (hn : n ≤ 14) (hR : R.length = n) (hs : PO.Small R) (hA : Ab w hi ga ws R) (hlo : hi ≤ w.heap.size) :
    CallsIn Fence.wide N Tryd.prog 58 #[.slice (some ⟨ga, 0, none⟩) n n] w fun e w' => ∃ gf gw gr, e = .returned (.pointer (some ⟨gf, 0, none⟩)) ∧
      FrAt w' w.heap.size gf ga n gw gr (wk n) R [] ∧ Below w.heap.size w w' :=
  (newFrontier_in N hN hi ga n ws R w hT hn hR hs hA hlo).mono fun e w' h => by
    obtain ⟨gf, gw, gr, rfl, hF, hB⟩ := h
    have h2 := PO.fst_new (PO.rows_good hs)
    rw [PO.rows_len, hR] at h2
    exact ⟨gf, gw, gr, rfl, hF.st hR h2, hB⟩
theorem kM_lt' {n : Nat} {R : List Nat} (hR : R.length = n) (d : List Nat) : PO.kM (PO.rows R) d < 2 ^ n := by
  have := PO.kM_lt (PO.rows R) d
  rwa [PO.rows_len, hR] at this
theorem take_st (N : Nat) (hN : 6 ≤ N) (lo hi gf ga n gw gr a : Nat) (ws R d : List Nat) (w : World) (hT : Tab w) (hn : n ≤ 14) (hR : R.length = n) (hs : PO.Small R) (hA : Ab w hi ga ws R) (hF : FrAt w lo gf ga n gw gr 1 R d) (hlo : hi ≤ lo) (ht : 0 < lo) (ha : a < n)
    (hc : canGo (PO.rows R) d a = true) (hcl : ∀ w ∈ d, ∀ u, u < (PO.rows R).length → w ∈ nb (PO.rows R) u → u ∈ d) :
    CallsIn Fence.wide N Tryd.prog 60 #[.pointer (some ⟨gf, 0, none⟩), .int .i64 (a : Int)] w fun e w' => (∃ v, e = .returned v) ∧
      FrAt w' lo gf ga n gw gr 1 R (d ++ [a]) ∧ Chg (fun b => b = gw ∨ b = gr) w w' :=
  (take_in N hN lo hi gf ga n gw gr _ a _ ws R w hT hn hR hs hA hF hlo ht (PO.kF_bd _ (by rw [PO.rows_len]; omega) d) (kM_lt' hR d) ha).mono fun e w' h => by
    obtain ⟨h1, h2, h3⟩ := h
    have h4 := PO.fst_take (PO.rows_good hs) (PO.kst (PO.rows R) d) hc (by rw [PO.rows_len, hR]; exact ha) hcl
    rw [← PO.els_nb] at h4
    exact ⟨h1, h2.st hR h4, h3⟩

/-- The length of a slice. -/
def vLen' : Value → Nat
  | .slice _ n _ => n
  | _ => 0
theorem own_made0 (W : World) (c lo : Nat) (hc : c ≤ 100000) (hlo : lo ≤ W.heap.size) : Own (W.alloc (.cells (Array.replicate c (.int .i64 0)) 3)) lo (.slice (some ⟨W.heap.size, 0, none⟩) 0 c) [] :=
  ⟨rfl, .inr ⟨W.heap.size, c, Array.replicate c (.int .i64 0), rfl, hlo, World.alloc_heap_new W _, Nat.zero_le _, by simp only [maxLen]; omega, by simp, by simp⟩⟩
theorem Fr.grown {W W' : World} {o : Obj} {lo gf ga n gw gr k m lo2 : Nat} {F : Nat → Int} {row : Option Nat} (h : Fr W lo gf ga n gw gr k F m) (hg : (W.alloc o).grownBy W' row) (hr : ∀ b, row = some b → lo2 ≤ b) (h1 : gf < lo2) (h2 : gw < lo2) (h3 : gr < lo2) : Fr W' lo gf ga n gw gr k F m := by
  have key : ∀ b, b < lo2 → b < W.heap.size → W'.heap[b]? = W.heap[b]? := fun b hb hl => (hg.block b (by simp; omega) (fun e => by have := hr b e.symm; omega)).trans (Below.heap_alloc W o b hl)
  exact h.keep (key _ h1 h.lt1) (key _ h2 h.lt2) (key _ h3 h.lt3)
set_option maxRecDepth 100000 in
set_option maxHeartbeats 4000000 in
theorem leastLinear_any (hi ga n : Nat) (ws R : List Nat) (w : World) (hT : Tab w) (hn : n ≤ 14) (hR : R.length = n) (hs : PO.Small R) (hA : Ab w hi ga ws R) (hlo : hi ≤ w.heap.size) :
    Calls Tryd.prog 47 #[.slice (some ⟨ga, 0, none⟩) n n] w fun e w' => ∃ v, e = .returned v ∧ Own w' w.heap.size v (topoL (PO.rows R)) ∧ Below w.heap.size w w' := by
  have HNF := Lib.hid ((callsIn_wide (n := 6)).1 (newFrontier_st 6 (by omega) hi ga n ws R w hT hn hR hs hA hlo))
  have hmk : ∀ W : World, (Instr.makeSlice 22 (.int .i64 0) (.int .i64 (n : Int))).run Tryd.prog W = .ok (.slice (some ⟨W.heap.size, 0, none⟩) 0 n) (W.alloc (.cells (Array.replicate n (.int .i64 0)) 3)) := make_ints 0 n (Nat.zero_le _) (by omega)
  obtain ⟨i0, hi0, hz0, hz1, hz2⟩ := info_parts info_int
  obtain ⟨k, hk⟩ : ∃ k, wk n = k := ⟨_, rfl⟩
  rw [hk] at HNF
  have hk1 : k ≤ 1 := by rw [← hk]; exact wk_le n
  have HS := Lib.hid hs
  have HA := Lib.hid hA
  have HT := Lib.hid hT
  have htl := hT.lt
  have hrl : (PO.rows R).length = n := by rw [PO.rows_len, hR]
  have HRL := Lib.hid hrl
  have HR := Lib.hid hR
  clear hs hA hT hrl hR
  go_enter Tryd.func47, Tryd.ntmps47
  go_wp2_with (first
    | (go_at_call 58
       refine HNF.out.mono ?_
       rintro e w1 ⟨gf, gw, gr, rfl, hF1, hB1⟩
       have c2 := (show FrAt (w1.alloc (.cells (Array.replicate n (.int .i64 0)) 3)) w.heap.size gf ga n gw gr k R [] from hF1.below ((Below.refl _ _).alloc (Nat.le_refl _) _)).c2
       have HF1 := Lib.hid hF1
       have HB1 := Lib.hid hB1
       have HFI := Lib.hid (show ∀ W : World, Below w1.heap.size w1 W → Calls Tryd.prog 59 #[.slice (some ⟨gr, 0, none⟩) k k] W fun e w' => e = .returned (.tuple #[.int .i64 (((PO.els (PO.kM (PO.rows R) []))[0]?.getD 0 : Nat) : Int), .bool (PO.els (PO.kM (PO.rows R) []))[0]?.isSome]) ∧ Below W.heap.size W w' from
         fun W hW => (callsIn_wide (n := 6)).1 (first_in 6 (by omega) n k gr _ W ((HT.out.below HT.out.lt hB1).below (by have := hB1.size; omega) hW) (hF1.rd.below hF1.lt3 hW) (kM_lt' HR.out []) hn))
       clear hF1 hB1 HNF)
    | (go_at_call 59
       refine (HFI.out _ ((Below.refl _ _).alloc (Nat.le_refl _) _)).mono ?_
       rintro e w2 ⟨rfl, hB2⟩
       have HB2 := Lib.hid hB2
       clear hB2 HFI))
  obtain ⟨lo2, hlo2⟩ : ∃ lo2, w1.heap.size = lo2 := ⟨_, rfl⟩
  have hb2 : Below lo2 w1 w2 := by rw [← hlo2]; exact ((Below.refl _ _).alloc (Nat.le_refl _) _).trans (HB2.out.mono (by simp))
  have hF2 : FrAt w2 w.heap.size gf ga n gw gr k R [] := HF1.out.below (by rw [hlo2]; exact hb2)
  have ho2 : Own w2 lo2 (.slice (some ⟨lo2, 0, none⟩) 0 n) [] := by
    rw [← hlo2]
    exact (own_made0 w1 n _ (by omega) (Nat.le_refl _)).keep fun b hb => HB2.out.block b (by
      have : w1.heap.size = b := by simpa [Value.ownBlock] using hb
      simp; omega)
  have hB2 : Below w.heap.size w w2 := HB1.out.trans (hb2.mono (by have := HB1.out.size; omega))
  have hl1 := HF1.out.lt1
  have hl2 := HF1.out.lt2
  have hl3 := HF1.out.lt3
  have hg1 := HF1.out.l1
  have hg2 := HF1.out.l2
  have hg3 := HF1.out.l3
  rw [hlo2] at hl1 hl2 hl3
  have hs2 := hb2.size
  rw [hlo2] at hs2
  have HO2 := Lib.hid ho2
  have HF2 := Lib.hid hF2
  have HB22 := Lib.hid hB2
  rw [hlo2]
  clear hb2 hF2 ho2 hB2 HF1 HB1 HB2 c2
  go_loopw [4, 5, 6] (fun i1 i2 i3 wr => ∃ (ov : Value) (d : List Nat), i1 = ov ∧ i2 = .int .i64 (((PO.els (PO.kM (PO.rows R) d))[0]?.getD 0 : Nat) : Int) ∧ i3 = .bool (PO.els (PO.kM (PO.rows R) d))[0]?.isSome ∧ Hid (PO.Way (PO.rows R) d) ∧ Hid (FrAt wr w.heap.size gf ga n gw gr k R d) ∧ Hid (Own wr lo2 ov d) ∧ Hid (Below w.heap.size w wr) ∧ lo2 ≤ wr.heap.size) (fun i1 _ _ _ => n - vLen' i1)
  case atStart => exact ⟨_, [], rfl, rfl, rfl, PO.Way.nil _, HF2.out, HO2.out, HB22.out, hs2⟩
  case round =>
    obtain ⟨ov, d, rfl, rfl, rfl, hway, hF, ho, hB, hsz⟩ := hrel
    obtain ⟨wq, hwq⟩ : ∃ W, W = wr := ⟨_, rfl⟩
    subst hwq
    obtain ⟨ov, hov⟩ : ∃ O, O = u4 := ⟨_, rfl⟩
    subst hov
    obtain ⟨oA, oc, rfl, _, _⟩ := ho.out.slice
    have hdl := hway.out.len
    rw [HRL.out] at hdl
    have hst := PO.step_els (nx := PO.rows R) (by rw [HRL.out]; omega) d
    obtain ⟨q, hq⟩ : ∃ q, (PO.els (PO.kM (PO.rows R) d))[0]? = q := ⟨_, rfl⟩
    rw [hq] at hst
    rw [hq]
    clear HF2 HO2 HB22
    cases q with
    | none =>
      have HD := Lib.hid (hway.out.done hst)
      clear hst hq
      go_wp2_with fail
      go_ret
      refine ⟨_, rfl, ?_, hB.out⟩
      rw [HD.out]
      exact ho.out.base_ fun b hb => by have := (ho.out.lt b hb).1; omega
    | some x =>
      obtain ⟨hx, hc, hw2⟩ := hway.out.snoc hst
      rw [HRL.out] at hx
      have hdl2 := hw2.len
      rw [HRL.out, List.length_append, List.length_singleton] at hdl2
      obtain rfl : k = 1 := by rw [← hk]; exact wk_pos (by omega)
      have hA2 := HA.out.below (hB.out.mono hlo)
      have hT2 := HT.out.below htl hB.out
      have HTK := Lib.hid ((callsIn_wide (n := 6)).1 (take_st 6 (by omega) w.heap.size hi gf ga n gw gr x ws R d wq hT2 hn HR.out HS.out hA2 hF.out hlo htl hx hc hway.out.closed))
      have HW2 := Lib.hid hw2
      have HOQ := Lib.hid ho.out
      have HBQ := Lib.hid hB.out
      clear hst hq hc hw2 hA2 hT2
      have hx0 : (some x : Option Nat).getD 0 = x := rfl
      simp only [Option.isSome_some, Option.getD_some]
      go_wp2_with (first
        | (go_at_call 60
           refine HTK.out.mono ?_
           rintro e w3 ⟨⟨v, rfl⟩, hF3, hc3⟩
           have hs3 := hc3.size
           have HF3 := Lib.hid hF3
           have HO3 := Lib.hid (show Own (w3.alloc (.cells #[.int .i64 (x : Int)] 3)) lo2 (.slice oA d.length oc) d from (HOQ.out.chg hc3 (fun b hb e => by have := (HOQ.out.lt b hb).1; omega)).keep fun b hb => Below.heap_alloc _ _ _ (by have := (HOQ.out.lt b hb).2; omega))
           have HB3 := Lib.hid (HBQ.out.trans (hc3.below (B := w.heap.size) (fun b hb1 h1 => by rcases h1 with h1 | h1 <;> omega) (by have := HBQ.out.size; omega)))
           clear hF3 hc3 HTK)
        | (at_builtin
           refine wpList_append_lies _ rfl (.tmp 32) (.tmp 34) 22 rfl lo2 3 i0 _ 1 8 Tryd.underlying22 hi0 hz0 hz1 hz2 rfl (by decide) (.slice oA d.length oc) d.length (d.map nv) rfl HO3.out ⟨w3.heap.size, 0, none⟩ 1 1 [.int .i64 (x : Int)] rfl rfl (fun j u hu => cell_one_new w3 _ _ j u hu) (by simp [Value.oneCell']) (by decide) (by simp only [maxLen]; omega) (by omega) (by simp; omega) _ rfl ?_
           intro g7 c7 w7 hown7 hgrow7 hat7 hlt7
           have ho7 : Own w7 lo2 (.slice (some ⟨g7, 0, none⟩) (d.length + 1) c7) (d ++ [x]) := by
             unfold Own
             rw [List.length_append, List.map_append]
             exact hown7
           have hF7 : FrAt w7 w.heap.size gf ga n gw gr 1 R (d ++ [x]) := HF3.out.grown hgrow7 (fun b e => (HO3.out.lt b e).1) hl1 hl2 hl3
           have hB7 := (HB3.out.alloc (by have := HB3.out.size; omega) (.cells #[.int .i64 (x : Int)] 3)).grown hgrow7 (by have := HB3.out.size; simp; omega) (fun b e => by have := (HO3.out.lt b e).1; omega)
           have hs7 := hgrow7.size
           have hc7 := hF7.c2
           have HFI := Lib.hid ((callsIn_wide (n := 6)).1 (first_in 6 (by omega) n 1 gr _ w7 (HT.out.below htl hB7) hF7.rd (kM_lt' HR.out (d ++ [x])) hn))
           have HO7 := Lib.hid ho7
           have HF7 := Lib.hid hF7
           have HB7 := Lib.hid hB7
           clear ho7 hF7 hB7 hown7 hgrow7 hat7)
        | (go_at_call 59
           refine HFI.out.mono ?_
           rintro e w8 ⟨rfl, hB8⟩
           have HB8 := Lib.hid hB8
           clear hB8 HFI))
      go_roundw
      case rel => exact ⟨_, d ++ [x], rfl, rfl, rfl, HW2.out, HF7.out.below HB8.out, by have h := HO7.out.keep fun b hb => HB8.out.block b (HO7.out.lt b hb).2; exact h, HB7.out.trans (HB8.out.mono (by have := HB7.out.size; omega)), by have := HB8.out.size; simp at hs7; omega⟩
      case measure => simp [vLen']; omega
end Go.Proofs.YtlomhoohmcnniaaDoor

namespace Go.Proofs.YtlomhoohmcnniaaDoor
open Go Go.RowKit Go.Proofs Go.Shelf
attribute [local go_sem] Oper.semAt_some

theorem backward_any (A : Option Addr) (n c : Nat) (w : World) :
    Calls Tryd.prog 61 #[.slice A n c] w fun e w' => e = .returned (.func (.func 66) #[] #[.pointer (some ⟨w.heap.size, 0, none⟩)]) ∧ w' = w.alloc (.cells #[.slice A n c] 22) := by
  go_enter Tryd.func61, Tryd.ntmps61
  go_wp2
  go_ret
  exact ⟨rfl, rfl⟩
/-- A place and what stands there. -/
def bwA (L : List Nat) (x : El L.length) : Array Value := #[.int .i64 (x.1 : Int), .int .i64 ((L[x.1]?.getD 0 : Nat) : Int)]
set_option maxRecDepth 100000 in
set_option maxHeartbeats 4000000 in
theorem backward1_in (N : Nat) (hN : 3 ≤ N) (l Bs : Nat) (X : Nat → Prop) (A : Option Addr) (c lo : Nat) (L : List Nat) (hL : L.length ≤ 1000) (J Jx : List (El L.length) → World → Prop)
    (hY : ∀ pre x W, J pre W → pre.length < L.length → YieldAt Fence.wide (N - 1) Tryd.prog l (bwA L x) W fun e W' =>
      (e = .returned (.bool true) ∧ J (pre ++ [x]) W' ∧ Keeps X W W') ∨ (e = .returned (.bool false) ∧ Jx (pre ++ [x]) W'))
    (W : World) (hX : X Bs) (hBs : W.cell? ⟨Bs, 0, none⟩ = some (.slice A L.length c)) (hO : Own W lo (.slice A L.length c) L) (hXo : ∀ b, (Value.slice A L.length c).ownBlock = some b → X b) (h0 : J [] W) :
    CallsIn Fence.wide N Tryd.prog 66 #[.func (.yield l) #[] #[], .pointer (some ⟨Bs, 0, none⟩)] W fun e W' => (∃ v, e = .returned v) ∧
      ((∃ ys : List (El L.length), ys.map (fun x => L[x.1]?.getD 0) = L.reverse ∧ J ys W') ∨ (∃ pre : List (El L.length), True ∧ Jx pre W')) := by
  have HO := Lib.hid hO
  refine callsIn_of_wp Tryd.func66 rfl trivial ?_ rfl
  simp only [Tryd.ntmps66, List.size_toArray, List.length_cons, List.length_nil, Nat.reduceAdd, Nat.reduceSub, Array.replicate_succ, Array.replicate_zero, List.push_toArray, List.append_toArray, List.nil_append, List.cons_append]
  clear hO
  gi_wp2
  gi_loopw [3] (fun i V => ∃ (j : Nat) (pre : List (El L.length)), i = .int .i64 ((j : Int) - 1) ∧ j ≤ L.length ∧ pre.length = L.length - j ∧ Hid (pre.map (fun x => L[x.1]?.getD 0) = (L.drop j).reverse) ∧ Hid (J pre V) ∧ Hid (Keeps X W V)) (fun i _ => (intOf i + 1).toNat)
  case atStart => exact ⟨L.length, [], rfl, Nat.le_refl _, by simp, (show List.map _ [] = _ by simp), h0, Keeps.refl _ _⟩
  case round =>
    obtain ⟨j, pre, rfl, hj, hpl, hpre, hJ, hK⟩ := hrel
    have hbx : wr.cell? ⟨Bs, 0, none⟩ = some (.slice A L.length c) := (hK.out.cell hX).trans hBs
    rcases Nat.eq_zero_or_pos j with h0j | h0j
    · subst h0j
      have HP := Lib.hid (show pre.map (fun x => L[x.1]?.getD 0) = L.reverse from hpre.out)
      clear hpre
      have hneg : ((0 : Int) - 1) = -1 := rfl
      gi_wp2
      go_end0
      exact ⟨⟨_, rfl⟩, .inl ⟨pre, HP.out, hJ.out⟩⟩
    · obtain ⟨i, rfl⟩ : ∃ i, j = i + 1 := ⟨j - 1, by omega⟩
      have hi : ((i + 1 : Nat) : Int) - 1 = (i : Int) := by omega
      rw [hi]
      obtain ⟨gl, cl, e, hg1, hg2, _, _⟩ := HO.out.form (by omega)
      injection e with e1 e2 e3
      subst e1 e3
      have hcx := HO.out.cell (i := i) (by omega)
      have hcx2 : wr.cell? ⟨gl, i, none⟩ = some (.int .i64 ((L[i]?.getD 0 : Nat) : Int)) := (hK.out.cell (hXo gl rfl)).trans hcx
      obtain ⟨fn, tmps, assign, body, hy, hR⟩ := hY pre ⟨i, by omega⟩ wr hJ.out (by omega)
      unfold bwA at hy
      dsimp only at hy
      have HPP := Lib.hid (show (pre ++ [(⟨i, by omega⟩ : El L.length)]).map (fun x => L[x.1]?.getD 0) = (L.drop i).reverse by
        rw [List.map_append, hpre.out, List.drop_eq_getElem_cons (show i < L.length by omega), List.reverse_cons]
        simp [List.getElem?_eq_getElem (show i < L.length by omega)])
      clear hY hpre hcx
      gi_wp2
      all_goals
        refine ⟨fun _ => by omega, hR.mono ?_⟩
        rintro e W3 (⟨rfl, hJ3, hk3⟩ | ⟨rfl, hJx3⟩)
      · gi_wp2
        go_roundw
        case rel => exact ⟨i, _, rfl, by omega, by rw [List.length_append, List.length_singleton]; omega, HPP.out, hJ3, hK.out.trans hk3⟩
        case measure => simp [intOf]
      · gi_wp2
        refine bodyPost_ret (results_none rfl _ _ _) rfl ?_
        exact ⟨⟨_, rfl⟩, .inr ⟨_, trivial, hJx3⟩⟩
theorem backward_stops (N : Nat) (hN : 3 ≤ N) (Bs : Nat) (X : Nat → Prop) (A : Option Addr) (c lo : Nat) (L : List Nat) (hL : L.length ≤ 1000) (w : World) (hX : X Bs) (hBs : w.cell? ⟨Bs, 0, none⟩ = some (.slice A L.length c)) (hO : Own w lo (.slice A L.length c) L) (hXo : ∀ b, (Value.slice A L.length c).ownBlock = some b → X b) :
    SeqStopsK Fence.wide N Tryd.prog 66 #[.pointer (some ⟨Bs, 0, none⟩)] (bwA L) (Keeps X) (fun ys => ys.map (fun x => L[x.1]?.getD 0) = L.reverse) (fun _ => True) L.length w :=
  fun l J Jx W hW _ _ hY h0 => backward1_in N hN l Bs X A c lo L hL J Jx hY W hX ((hW.cell (cell_lt hBs)).trans hBs) (hO.keep fun b hb => hW.block b (hO.lt b hb).2) hXo h0
end Go.Proofs.YtlomhoohmcnniaaDoor

namespace Go.Proofs.YtlomhoohmcnniaaDoor
open Go Go.RowKit Go.Proofs Go.Shelf
attribute [local go_sem] Oper.semAt_some

theorem Ab.own {X Y : World} {hi ga : Nat} {ws R : List Nat} {row : Option Nat} (h : Ab X hi ga ws R) (hg : X.grownBy Y row) (hr : ∀ r, row = some r → ∃ o : Obj, X.heap[r]? = some o ∧ o.isCells = false) : Ab Y hi ga ws R :=
  ⟨h.len, block_own h.blk hg hr, h.gin, fun i g m h1 h2 => (h.row i g m h1 h2).own hg hr, h.inn⟩
/-- What holds between two elements. -/
structure CuJ (w : World) (hi bo ga n : Nat) (ws R : List Nat) (W : World) : Prop where
  ab : Ab W hi ga ws R
  small : ∀ m ∈ R, m < 2 ^ n
  len : R.length = n
  box : Boxed W bo 68 (.slice (some ⟨ga, 0, none⟩) n n)
  chg : Chg (· ∈ ws) w W
theorem CuJ.own {w X Y : World} {hi bo ga n D : Nat} {ws R : List Nat} {row : Option Nat} (h : CuJ w hi bo ga n ws R X) (hD : w.heap.size ≤ D) (hg : X.grownBy Y row) (hr : ∀ r, row = some r → D ≤ r ∧ ∃ o : Obj, X.heap[r]? = some o ∧ o.isCells = false) : CuJ w hi bo ga n ws R Y :=
  ⟨h.ab.own hg fun r e => (hr r e).2, h.small, h.len, block_own h.box hg fun r e => (hr r e).2, h.chg.own hD hg fun r e => (hr r e).1⟩
/-- What holds between two members of a row. -/
structure CiJ (w : World) (hi bo ga n gs br : Nat) (ws R : List Nat) (B : Nat) (W : World) (m : Nat) (V : World) : Prop where
  cu : CuJ w hi bo ga n ws R V
  set : Sw V 1 gs m
  lt : m < 2 ^ n
  rbox : Boxed V br 67 (.slice (some ⟨gs, 0, none⟩) 1 1)
  bel : Below W.heap.size W V
  kf : KeepsFrom B W V
def vals2 (L : List Nat) (l : List (El L.length)) : List Nat := l.map fun x => L[x.1]?.getD 0
theorem vals2_snoc (L : List Nat) (l : List (El L.length)) (x : El L.length) : vals2 L (l ++ [x]) = vals2 L l ++ [L[x.1]?.getD 0] := by simp [vals2]
set_option maxRecDepth 100000 in
set_option maxHeartbeats 8000000 in
theorem closeUpward_in (N : Nat) (hN : 10 ≤ N) (hi ga n c lo : Nat) (A : Option Addr) (ws R L : List Nat) (w : World) (hT : Tab w) (hn : n ≤ 14) (hR : R.length = n) (hs : ∀ m ∈ R, m < 2 ^ n) (hA : Ab w hi ga ws R) (hd : ws.Nodup) (ht : 0 ∉ ws) (hlo : hi ≤ w.heap.size) (hO : Own w lo (.slice A L.length c) L) (hL : ∀ x ∈ L, x < n) (hLl : L.length ≤ 14) :
    CallsIn Fence.wide N Tryd.prog 48 #[.slice (some ⟨ga, 0, none⟩) n n, .slice A L.length c] w fun e w' => (∃ v, e = .returned v) ∧
      Ab w' hi ga ws (L.reverse.foldl PO.stC R) ∧ Chg (· ∈ ws) w w' := by
  have h1 : 1 ≤ N := by omega
  refine callsIn_of_wp_marks Tryd.func48 rfl trivial ?_ rfl
  simp only [Tryd.ntmps48, List.size_toArray, List.length_cons, List.length_nil, Nat.reduceAdd, Nat.reduceSub, Array.replicate_succ, Array.replicate_zero, List.push_toArray, List.append_toArray, List.nil_append, List.cons_append]
  gi_wp2_with ((first | refine ⟨trivial, fun _ => by omega, ?_⟩ | refine ⟨trivial, ?_⟩)
               gi_at_call 61
               refine (callsIn_wide.2 (backward_any _ _ _ _)).mono ?_
               rintro e w' ⟨rfl, rfl⟩)
  obtain ⟨W0, hW0⟩ : ∃ W0, (w.alloc (.cells #[.slice (some ⟨ga, 0, none⟩) n n] 68)).alloc (.cells #[.slice A L.length c] 22) = W0 := ⟨_, rfl⟩
  have hb0 : Below w.heap.size w W0 := by rw [← hW0]; exact ((Below.refl _ _).alloc (Nat.le_refl _) _).alloc (by simp) _
  have hsz : W0.heap.size = w.heap.size + 2 := by rw [← hW0]; simp
  have b0 : Boxed W0 w.heap.size 68 (.slice (some ⟨ga, 0, none⟩) n n) := by rw [← hW0]; exact (Boxed.new w _ _).alloc _
  have b1 : W0.cell? ⟨w.heap.size + 1, 0, none⟩ = some (.slice A L.length c) := by
    rw [← hW0]
    have := Boxed.new (w.alloc (.cells #[.slice (some ⟨ga, 0, none⟩) n n] 68)) 22 (.slice A L.length c)
    rw [World.size_alloc] at this
    exact this.cell
  have hO0 := hO.keep fun b hb => hb0.block b (hO.lt b hb).2
  have hJ0 : CuJ w hi w.heap.size ga n ws R W0 := ⟨hA.below (hb0.mono hlo), hs, hR, b0, (Chg.refl _ _).new hb0⟩
  have htl := hT.lt
  have hwl : ∀ g ∈ ws, g < w.heap.size := fun g hg => by have := hA.inn g hg; omega
  have hol := hO.lt
  have how : ∀ b, (Value.slice A L.length c).ownBlock = some b → b ∉ ws := fun b hb hm => by
    obtain ⟨j, hj, rfl⟩ := List.mem_iff_getElem.1 hm
    have h2 := hA.row j _ R[j]! (List.getElem?_eq_getElem hj) (by have hjr : j < R.length := by rw [← hA.len]; exact hj
                                                                  rw [List.getElem?_eq_getElem hjr]; simp [hjr])
    rcases hO.2 with ⟨e, _⟩ | ⟨g', cap, cur, e, _, h3, _⟩
    · rw [e] at hb; cases hb
    · rw [e] at hb
      have e2 : g' = ws[j] := by simpa [Value.ownBlock] using hb
      rw [e2] at h3
      exact heapT_ne h2.2.2 h3 (by decide) rfl
  rw [hW0]
  clear hW0
  refine wpIn_rangeFunc_ownH rfl h1 (gf := 66) (lb := #[.pointer (some ⟨w.heap.size + 1, 0, none⟩)]) rfl trivial (enters_of Tryd.func66 (by kernel_rfl) rfl)
    (backward_stops (N - 1) (by omega) (w.heap.size + 1) (fun k => k = w.heap.size + 1 ∨ (Value.slice A L.length c).ownBlock = some k ∨ k = 0) A c lo L (by omega) W0 (.inl rfl) b1 hO0 (fun b hb => .inr (.inl hb)))
    (fun h k => Keeps.trans h k) (fun W l o o' hl h _ _ => Keeps.putObj (m := W0.heap.size) (by
      rintro k (rfl | h | rfl)
      · omega
      · have := (hol k h).2; omega
      · omega) W l o o' hl h) (Below.refl _ _) (fun _ => rfl)
    (fun pre W => CuJ w hi w.heap.size ga n ws ((vals2 L pre).foldl PO.stC R) W)
    (fun _ _ _ => False)
    (fun pre X Y row hJ hg hr => hJ.own (by omega) hg hr)
    (fun _ _ _ _ _ hs _ _ => hs)
    hJ0
    (fun x a' _ => a' = { tmps := #[.slice (some ⟨ga, 0, none⟩) n n, .slice A L.length c, .pointer (some ⟨w.heap.size, 0, none⟩), undef, undef, .int .i64 ((L[x.1]?.getD 0 : Nat) : Int), undef, undef, .slice A L.length c, .func (Fn.func 66) #[] #[.pointer (some ⟨w.heap.size + 1, 0, none⟩)], .int .i64 (x.1 : Int), .int .i64 ((L[x.1]?.getD 0 : Nat) : Int), undef, undef, undef, undef, undef, undef, undef, undef, undef, undef, undef, undef, undef, undef, undef, undef, undef, undef, undef, undef, undef, undef, undef, undef, undef], defers := [] })
    (fun _ _ _ _ _ _ hs _ _ => hs)
    ?assign ?body ?done ?stop
  case assign =>
    rintro l pre x W K hi hK
    unfold bwA
    gi_wp2
    exact hK _ _ (KeepsFrom.refl _ _) (Keeps.refl _ _) hi rfl
  case body =>
    rintro l pre ⟨i, hil⟩ a' W hl ⟨r, hr⟩ hJ rfl hlen
    obtain ⟨R1, hR1⟩ : ∃ R1, (vals2 L pre).foldl PO.stC R = R1 := ⟨_, rfl⟩
    have hJ : CuJ w hi w.heap.size ga n ws R1 W := by rw [← hR1]; exact hJ
    obtain ⟨y, hy⟩ : ∃ y, L[i]?.getD 0 = y := ⟨_, rfl⟩
    have hyn : y < n := by
      rw [List.getElem?_eq_getElem hil] at hy
      exact hL y (hy ▸ List.getElem_mem hil)
    have hnext : (vals2 L (pre ++ [(⟨i, hil⟩ : El L.length)])).foldl PO.stC R = PO.stC R1 y := by rw [vals2_snoc, PO.foldl_snoc, hR1, hy]
    dsimp only
    rw [hy]
    have hbx0 := hJ.box.cell
    have hNS := newSet_any n 1 hn (wk_pos (by omega))
    have hb1 : Below W.heap.size W ((W.alloc (.cells #[.int .u64 0] 82)).alloc (.cells #[.slice (some ⟨W.heap.size, 0, none⟩) 1 1] 67)) := ((Below.refl _ _).alloc (Nat.le_refl _) _).alloc (by simp) _
    have hWs := hJ.chg.size
    have hbxl : w.heap.size < W.heap.size := hJ.box.lt
    have hA1 := hJ.ab.below (hb1.mono (by omega))
    have hbx1 : Boxed ((W.alloc (.cells #[.int .u64 0] 82)).alloc (.cells #[.slice (some ⟨W.heap.size, 0, none⟩) 1 1] 67)) w.heap.size 68 (.slice (some ⟨ga, 0, none⟩) n n) := (hb1.block _ hbxl).trans hJ.box
    have hbc1 := hbx1.cell
    have hbc2 : (W.alloc (.cells #[.int .u64 0] 82)).cell? ⟨w.heap.size, 0, none⟩ = some (.slice (some ⟨ga, 0, none⟩) n n) := (((Below.refl W.heap.size W).alloc (Nat.le_refl _) _).cell (p := ⟨w.heap.size, 0, none⟩) hbxl).trans hbx0
    obtain ⟨g, hgw, hcg, hsg, hgh⟩ := hA1.at_ (i := y) (by have := hJ.len; omega)
    have hgm := List.mem_of_getElem? hgw
    have HNS := Lib.hid hNS
    have HJ := Lib.hid hJ
    have HSG := Lib.hid hsg
    have HA1 := Lib.hid hA1
    have HBX := Lib.hid hbx1
    have HB1 := Lib.hid hb1
    have HN := Lib.hid hnext
    have HR := Lib.hid hr
    clear hJ hsg hA1 hbx1 hb1 hnext hJ0 hO0 b0 b1 hNS hr hR1
    gi_wp2_with (first
      | ((first | refine ⟨trivial, fun _ => by omega, ?_⟩ | refine ⟨trivial, ?_⟩)
         gi_at_call 39
         refine (CallsIn.inRound l (callsIn_wide.2 (HNS.out _))).mono ?_
         rintro e w' ⟨rfl, rfl⟩)
      | ((first | refine ⟨trivial, fun _ => by omega, ?_⟩ | refine ⟨trivial, ?_⟩)
         gi_at_call 45
         refine (CallsIn.inRound l (callsIn_wide.2 (members_any _ _ _ _))).mono ?_
         rintro e w' ⟨rfl, rfl⟩))
    have hlW : W0.heap.size < W.heap.size := by have := (Array.getElem?_eq_some_iff.1 HR.out).1; omega
    obtain ⟨V0, hV0⟩ : ∃ V0, (((W.alloc (.cells #[.int .u64 0] 82)).alloc (.cells #[.slice (some ⟨W.heap.size, 0, none⟩) 1 1] 67)).alloc (.cells #[.slice (some ⟨g, 0, none⟩) 1 1] 67)) = V0 := ⟨_, rfl⟩
    have hbV : Below W.heap.size W V0 := by rw [← hV0]; exact HB1.out.alloc (by simp; omega) _
    have hVs : V0.heap.size = W.heap.size + 3 := by rw [← hV0]; simp
    have hkV : KeepsFrom W0.heap.size W V0 := by rw [← hV0]; exact (((KeepsOthers.alloc _ _).trans (KeepsOthers.alloc _ _)).trans (KeepsOthers.alloc _ _)).from _
    have hsw : Sw V0 1 W.heap.size 0 := by rw [← hV0]; exact ((Sw.new W).below (by simp) (((Below.refl _ _).alloc (Nat.le_refl _) _).alloc (by simp) _))
    have hrb : Boxed V0 (W.heap.size + 1) 67 (.slice (some ⟨W.heap.size, 0, none⟩) 1 1) := by
      rw [← hV0]
      have := Boxed.new (W.alloc (.cells #[.int .u64 0] 82)) 67 (.slice (some ⟨W.heap.size, 0, none⟩) 1 1)
      rw [World.size_alloc] at this
      exact this.alloc _
    have hmb : V0.cell? ⟨W.heap.size + 2, 0, none⟩ = some (.slice (some ⟨g, 0, none⟩) 1 1) := by
      rw [← hV0]
      have := Boxed.new ((W.alloc (.cells #[.int .u64 0] 82)).alloc (.cells #[.slice (some ⟨W.heap.size, 0, none⟩) 1 1] 67)) 67 (.slice (some ⟨g, 0, none⟩) 1 1)
      rw [World.size_alloc, World.size_alloc] at this
      exact this.cell
    have hcu : CuJ w hi w.heap.size ga n ws R1 V0 := ⟨HJ.out.ab.below (hbV.mono (by omega)), HJ.out.small, HJ.out.len, (hbV.block _ hbxl).trans HJ.out.box, HJ.out.chg.new hbV⟩
    have hci : CiJ w hi w.heap.size ga n W.heap.size (W.heap.size + 1) ws R1 W0.heap.size W 0 V0 := ⟨hcu, hsw, Nat.two_pow_pos n, hrb, hbV, hkV⟩
    have hgl : g < w.heap.size := hwl g hgm
    have hsgV : Sw V0 1 g (PO.rw_ R1 y) := by
      obtain ⟨g', e1, _, h2, _⟩ := hcu.ab.at_ (i := y) (by have := HJ.out.len; omega)
      rw [hgw] at e1
      injection e1 with e1
      rw [e1]
      exact h2
    have hTV : Tab V0 := by
      refine hT.keep ?_
      rw [hbV.block _ (by omega)]
      exact HJ.out.chg.block _ htl ht
    have hrV : V0.heap[l]? = some (.loop r) := (hbV.block l (by have := (Array.getElem?_eq_some_iff.1 HR.out).1; omega)).trans HR.out
    have h1' : 1 ≤ N - 1 - 1 := by omega
    have hlen1 := HJ.out.len
    have hsm1 := HJ.out.small
    rw [hV0]
    clear hV0 hcg hbc1 hbc2 HNS HSG HA1 HBX HB1 hsw hrb hbV
    refine wpIn_rangeFunc_ownN (l₀ := l) (r₀ := r) rfl hrV h1' (gf := 56) (lb := #[.pointer (some ⟨W.heap.size + 1 + 1, 0, none⟩)]) rfl trivial (enters_of Tryd.func56 (by kernel_rfl) rfl)
      ((members_stops (N - 1 - 1 - 1) (by omega) (W.heap.size + 2) n 1 g (PO.rw_ R1 y) (fun k => k = 0 ∨ k = W.heap.size + 2 ∨ k = g) (.inl rfl) (PO.rw_lt hsm1 y) hn V0 hTV hmb hsgV).inRound l)
      (fun h k => Keeps.trans h k) (fun W l o o' hl h _ _ => Keeps.putObj (m := V0.heap.size) (by rintro k (rfl | rfl | rfl) <;> omega) W l o o' hl h) (Below.refl _ _) (fun _ => rfl)
      (fun pre' V => CiJ w hi w.heap.size ga n W.heap.size (W.heap.size + 1) ws R1 W0.heap.size W (PO.through (PO.rw_ R1) (vals pre')) V)
      (fun _ _ _ => False)
      (fun pre X Y row hJ hg hr => ⟨hJ.cu.own (D := V0.heap.size) (by omega) hg hr, hJ.set.own hg fun r e => (hr r e).2, hJ.lt, block_own hJ.rbox hg fun r e => (hr r e).2, ownFrom_below (β := Unit) (B := V0.heap.size) (Nat.le_refl _) (by omega) () X Y row hJ.bel hg hr, ownFrom_keepsFrom (β := Unit) (B' := V0.heap.size) (by omega) () X Y row hJ.kf hg hr⟩)
      (fun _ _ _ _ _ hs _ _ => hs)
      hci
      (fun z a' _ => a' = { tmps := #[.slice (some ⟨ga, 0, none⟩) n n, .slice A L.length c, .pointer (some ⟨w.heap.size, 0, none⟩), undef, undef, .int .i64 (y : Int), .pointer (some ⟨W.heap.size + 1, 0, none⟩), .int .i64 (z.1 : Int), .slice A L.length c, .func (Fn.func 66) #[] #[.pointer (some ⟨w.heap.size + 1, 0, none⟩)], .int .i64 (i : Int), .int .i64 (y : Int), .slice (some ⟨ga, 0, none⟩) n n, .int .i64 n, .slice (some ⟨W.heap.size, 0, none⟩) 1 1, .slice (some ⟨ga, 0, none⟩) n n, .int .i64 (y : Int), .pointer (some ⟨ga, y, none⟩), .slice (some ⟨g, 0, none⟩) 1 1, .func (Fn.func 56) #[] #[.pointer (some ⟨W.heap.size + 1 + 1, 0, none⟩)], .int .i64 (z.1 : Int), undef, undef, undef, undef, undef, undef, undef, undef, undef, undef, undef, undef, undef, undef, undef, undef], defers := [] })
      (fun _ _ _ _ _ _ hs _ _ => hs)
      ?assign2 ?body2 ?done2 ?stop2
    case assign2 =>
      rintro l2 pre' z V K hi hK
      unfold elA
      gi_wp2
      exact hK _ _ (KeepsFrom.refl _ _) (Keeps.refl _ _) hi rfl
    case body2 =>
      rintro l2 pre' ⟨z, hz⟩ a'' V _ _ hC rfl _
      obtain ⟨m, hm⟩ : ∃ m, PO.through (PO.rw_ R1) (vals pre') = m := ⟨_, rfl⟩
      have hC : CiJ w hi w.heap.size ga n W.heap.size (W.heap.size + 1) ws R1 W0.heap.size W m V := by rw [← hm]; exact hC
      have hnx : PO.through (PO.rw_ R1) (vals (pre' ++ [(⟨z, hz⟩ : El n)])) = if m.testBit z then m else m ||| PO.rw_ R1 z := by rw [vals_snoc, PO.through_snoc, hm]
      have hm8 := lt256 hC.lt hn
      have hrc := hC.rbox.cell
      have hbc := hC.cu.box.cell
      obtain ⟨g', hgw', hcg', hsg', hgh'⟩ := hC.cu.ab.at_ (i := z) (by omega)
      have hr8 := lt256 (PO.rw_lt hsm1 z) hn
      have HHAS := Lib.hid (has_any W.heap.size m z V hC.set (by omega) hm8)
      have HAA := Lib.hid (addAll_any W.heap.size m g' (PO.rw_ R1 z) V.drew (hC.set.keep rfl) (hsg'.keep rfl) hm8 hr8)
      have hci2 : CiJ w hi w.heap.size ga n W.heap.size (W.heap.size + 1) ws R1 W0.heap.size W (m ||| PO.rw_ R1 z) (V.drew.setCell ⟨W.heap.size, 0, none⟩ (.int .u64 ((m ||| PO.rw_ R1 z : Nat) : Int))) := by
        have hbs : Below W.heap.size V (V.drew.setCell ⟨W.heap.size, 0, none⟩ (.int .u64 ((m ||| PO.rw_ R1 z : Nat) : Int))) := ((Below.refl _ _).drew).setCell (p := ⟨W.heap.size, 0, none⟩) (Nat.le_refl _) _
        exact ⟨⟨hC.cu.ab.below (hbs.mono (by omega)), hsm1, hlen1, (hbs.block _ hbxl).trans hC.cu.box, (hC.cu.chg.drew).setCell (p := ⟨W.heap.size, 0, none⟩) (fun h => absurd h (by show ¬ W.heap.size < w.heap.size; omega)) _⟩, (show Sw V.drew 1 W.heap.size m from hC.set.keep rfl).set, Nat.or_lt_two_pow hC.lt (PO.rw_lt hsm1 z), box_set (W := V.drew) hC.rbox (by omega), hC.bel.trans hbs, hC.kf.trans (((KeepsOthers.drew _).trans (KeepsOthers.setCell _ _ _)).from _)⟩
      have HC := Lib.hid hC
      have HC2 := Lib.hid hci2
      have HNX := Lib.hid hnx
      obtain ⟨bt, hbt⟩ : ∃ b, m.testBit z = b := ⟨_, rfl⟩
      rw [hbt] at HHAS HNX
      clear hC hci2 hnx hci hsg' hsgV hcu hmb hTV hm hbt
      cases bt with
      | true =>
        gi_wp2_with ((first | refine ⟨trivial, fun _ => by omega, ?_⟩ | refine ⟨trivial, ?_⟩)
                     gi_at_call 31
                     refine (CallsIn.inRound l2 (CallsIn.inRound l (callsIn_wide.2 HHAS.out))).mono ?_
                     rintro e w' ⟨rfl, rfl⟩)
        have hfin : CiJ w hi w.heap.size ga n W.heap.size (W.heap.size + 1) ws R1 W0.heap.size W (PO.through (PO.rw_ R1) (vals (pre' ++ [(⟨z, hz⟩ : El n)]))) V := by rw [HNX.out]; exact HC.out
        exact ⟨KeepsFrom.refl _ _, Keeps.refl _ _, hfin⟩
      | false =>
        gi_wp2_with ((first | refine ⟨trivial, fun _ => by omega, ?_⟩ | refine ⟨trivial, ?_⟩)
                     gi_at_call 31
                     refine (CallsIn.inRound l2 (CallsIn.inRound l (callsIn_wide.2 HHAS.out))).mono ?_
                     rintro e w' ⟨rfl, rfl⟩)
        have hmx : Tryd.prog.follows .mixedOrders = true := by kernel_rfl
        gi_region_with_o (refine ⟨trivial, fun _ => by omega, ?_⟩; gi_at_call 62; refine (CallsIn.inRound l2 (CallsIn.inRound l (callsIn_wide.2 HAA.out))).mono ?_; rintro e w' ⟨⟨v', rfl⟩, rfl⟩)
        all_goals
          have hfin : CiJ w hi w.heap.size ga n W.heap.size (W.heap.size + 1) ws R1 W0.heap.size W (PO.through (PO.rw_ R1) (vals (pre' ++ [(⟨z, hz⟩ : El n)]))) (V.drew.setCell ⟨W.heap.size, 0, none⟩ (.int .u64 ((m ||| PO.rw_ R1 z : Nat) : Int))) := by rw [HNX.out]; exact HC2.out
          gi_wp2
          exact ⟨((KeepsOthers.drew _).trans (KeepsOthers.setCell _ _ _)).from _, ((Keeps.refl _ _).drew).setCell (by omega) _, hfin⟩
    case done2 =>
      rintro ys V hys hC
      rw [show vals ys = PO.els (PO.rw_ R1 y) from hys] at hC
      obtain ⟨m, hm⟩ : ∃ m, PO.through (PO.rw_ R1) (PO.els (PO.rw_ R1 y)) = m := ⟨_, rfl⟩
      rw [hm] at hC
      have hm8 := lt256 hC.lt hn
      have hr8 := lt256 (PO.rw_lt hsm1 y) hn
      have hrc := hC.rbox.cell
      have hbc := hC.cu.box.cell
      obtain ⟨g2, e1, hcg2, hsg2, _⟩ := hC.cu.ab.at_ (i := y) (by omega)
      rw [hgw] at e1
      injection e1 with e1
      subst e1
      have HAB := Lib.hid (addAll_any g (PO.rw_ R1 y) W.heap.size m V.drew (hsg2.keep rfl) (hC.set.keep rfl) hr8 hm8)
      have hnb : ¬ ((g : Nat) = w.heap.size) := by omega
      have hfin : CuJ w hi w.heap.size ga n ws ((vals2 L (pre ++ [(⟨i, hil⟩ : El L.length)])).foldl PO.stC R) (V.drew.setCell ⟨g, 0, none⟩ (.int .u64 ((PO.rw_ R1 y ||| m : Nat) : Int))) := by
        rw [HN.out]
        refine ⟨?_, PO.stC_lt hsm1 y, by rw [PO.stC_len]; exact hlen1, box_set (W := V.drew) hC.cu.box (Ne.symm hnb), (hC.cu.chg.drew).setCell (p := ⟨g, 0, none⟩) (fun _ => hgm) _⟩
        unfold PO.stC
        rw [hm]
        exact (show Ab V.drew hi ga ws R1 from hC.cu.ab.below ((Below.refl hi _).drew)).set hd hgw _
      have hkf := hC.kf.trans (((KeepsOthers.drew V).trans (KeepsOthers.setCell _ ⟨g, 0, none⟩ (.int .u64 ((PO.rw_ R1 y ||| m : Nat) : Int)))).from W0.heap.size)
      have hk : Keeps (fun k => k = w.heap.size + 1 ∨ (Value.slice A L.length c).ownBlock = some k ∨ k = 0) W (V.drew.setCell ⟨g, 0, none⟩ (.int .u64 ((PO.rw_ R1 y ||| m : Nat) : Int))) := by
        have hk0 : Keeps (fun k => k = w.heap.size + 1 ∨ (Value.slice A L.length c).ownBlock = some k ∨ k = 0) W V := ⟨hC.bel.size, fun k hk => hC.bel.block k (by
          rcases hk with rfl | h | rfl
          · omega
          · have := (hol k h).2; omega
          · omega)⟩
        refine hk0.drew.setCell ?_ _
        rintro (h | h | h)
        · omega
        · exact how g h hgm
        · exact ht (h ▸ hgm)
      have HFIN := Lib.hid hfin
      have HKF := Lib.hid hkf
      have HK := Lib.hid hk
      have hmx : Tryd.prog.follows .mixedOrders = true := by kernel_rfl
      clear hC hfin hkf hk hsg2 hm
      gi_wp2
      gi_region_with_o (refine ⟨trivial, ?_⟩; gi_at_call 62; refine (CallsIn.inRound l (callsIn_wide.2 HAB.out)).mono ?_; rintro e w' ⟨⟨v', rfl⟩, rfl⟩)
      all_goals
        gi_wp2
        exact ⟨HKF.out, HK.out, HFIN.out⟩
    case stop2 =>
      rintro c pre' W' _ h
      exact h.elim
  case done =>
    rintro D ys W hD hys hJ hK
    have hD3 : w.heap.size + 2 ≤ D := by omega
    clear hsz b0 b1 hJ0 hO0
    rw [show vals2 L ys = L.reverse from hys] at hJ
    gi_wp2
    refine ⟨by simp, .inl ⟨_, _, rfl, run_takeDeferred hK, ?_⟩⟩
    exact ⟨_, results_none rfl _ _ _, ⟨_, rfl⟩, hJ.ab.own (grownBy_putObj' W D _) (deferred_row hK), hJ.chg.put (by omega) _⟩
  case stop =>
    rintro D c pre W _ _ h _
    exact h.elim
end Go.Proofs.YtlomhoohmcnniaaDoor
