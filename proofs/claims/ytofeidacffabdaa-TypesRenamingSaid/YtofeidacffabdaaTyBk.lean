/-
  The reference's source: block, given what statement does at that depth. Condition: the source lies in a block of its own.
-/
import Derived.Test.YtofeidacffabdaaTyKr
import Derived.Test.YtofeidacffabdaaTyTh
import Derived.Test.YtofeidacffabdaaTySg
import Derived.Test.YtofeidacffabdaaTyU
import Derived.Deep.RegionLaw
namespace Go.Proofs.Ytofeidacffabdaa
open Go Go.RowKit Go.Proofs Go.Shelf
attribute [local go_sem] Oper.semAt_some

/-- Trees as elements of a row of nodes. -/
abbrev nds (ts : List TY.Nd) : List (List Value × TY.Nd) := ts.map fun t => ([], t)
theorem nds_snoc (ts : List TY.Nd) (t : TY.Nd) : nds (ts ++ [t]) = nds ts ++ [([], t)] := by simp [nds]
theorem nds_snd (ts : List TY.Nd) : (nds ts).map Prod.snd = ts := by simp [nds, Function.comp_def]
theorem grown_kept {w5 w6 : World} {B base n : Nat} {v : Value} {o : Obj} {C : Array Value} {t e : TypeId} {size : Nat} {xs : List Value} (hg : (w5.alloc o).grownBy w6 v.ownBlock) (hblk : w5.heap[B]? = some (.cells C t (0, 0))) (hown : (w5.alloc o).ownsRow base e size v n xs) (hB : B < base) :
    w6.heap[B]? = some (.cells C t (0, 0)) := by
  have hl := heap_lt hblk
  have hne : some B ≠ v.ownBlock := fun ee => by have := (hown.lt B ee.symm).1; omega
  exact ((hg.block B (by rw [World.size_alloc]; omega) hne).trans (Below.heap_alloc w5 _ B hl)).trans hblk
theorem grown_chg {w5 w6 : World} {base n : Nat} {v : Value} {o : Obj} {e : TypeId} {size : Nat} {xs : List Value} (hg : (w5.alloc o).grownBy w6 v.ownBlock) (hown : (w5.alloc o).ownsRow base e size v n xs) : Chg (base ≤ ·) w5 w6 :=
  ((Chg.refl (base ≤ ·) w5).alloc o).grown hg fun k ee _ => (hown.lt k ee).1
set_option maxRecDepth 100000 in
set_option maxHeartbeats 8000000 in
theorem block_any (L : List Int) (d : Int) (st : TY.Gen) (e : Nat) (hst : GAt 44 L d st e) : GAt 36 L d (TY.blockG L st) (1 + 3 * e) := by
  intro W lo b i hs hi
  obtain ⟨W0, hW0⟩ : ∃ U, W.alloc (.cells #[.int .i64 0, .int .i64 0, .string ⟨#[]⟩, .slice none 0 0] 25) = U := ⟨_, rfl⟩
  obtain ⟨W1, hW1⟩ : ∃ U, W0.alloc (.cells #[.int .i64 11, .int .i64 0, .string ⟨#[]⟩, .slice none 0 0] 25) = U := ⟨_, rfl⟩
  have X0 : Ex W W0 lo b L i := hW0 ▸ Ex.begin hs
  have X1 : Ex W W1 lo b L i := hW1 ▸ X0.alloc _
  have z0 : W0.heap.size = W.heap.size + 1 := by rw [← hW0, World.size_alloc]
  have z1 : W1.heap.size = W.heap.size + 1 + 1 := by rw [← hW1, World.size_alloc, z0]
  have n1 : W1.heap[W.heap.size + 1]? = some (.cells #[.int .i64 11, .int .i64 0, .string ⟨#[]⟩, .slice none 0 0] 25 (0, 0)) := by rw [← hW1, ← z0]; exact World.alloc_heap_new W0 _
  obtain ⟨m, hm⟩ : ∃ m, TY.nxt L i 4 = m := ⟨_, rfl⟩
  have hm4 : m < 4 := hm ▸ TY.nxt_lt _ _ (by decide)
  obtain ⟨⟨T, J⟩, hTJ⟩ : ∃ p, TY.many st m (i + 1) = p := ⟨_, rfl⟩
  have hG : TY.blockG L st i = (.mk 11 0 ⟨#[]⟩ T, J) := by
    unfold TY.blockG
    simp only [hm, hTJ]
    rfl
  rw [hG]
  have N1 := Lib.hid (nx X1 (by omega) 4 m 4 (by decide) (by decide) rfl hm)
  have HW := Lib.hid (show (W.alloc (.cells #[.int .i64 0, .int .i64 0, .string ⟨#[]⟩, .slice none 0 0] 25)).alloc (.cells #[.int .i64 11, .int .i64 0, .string ⟨#[]⟩, .slice none 0 0] 25) = W1 by rw [hW0, hW1])
  have HTJ := Lib.hid hTJ
  have HST := Lib.hid hst
  have HI := Lib.hid hi
  have HN1 := Lib.hid n1
  have hbW := X1.lt
  obtain ⟨i0, hi0, hz0, hz1, hz2⟩ := info_parts info_node
  have HZ := Lib.hid (And.intro hi0 (And.intro hz0 (And.intro hz1 hz2)))
  clear hG hm hTJ hst hi n1 hW0 hW1 X0 X1 z0 hs hi0 hz0 hz1 hz2
  go_enter Try.func36, Try.ntmps36
  go_wp2_with (first
    | (rw [HW.out]; go_at_call 31; refine N1.out.mono ?_; clear N1; rintro e w1 ⟨rfl, X2, C2⟩; replace X2 := Lib.hid X2; replace C2 := Lib.hid C2))
  have HN2 := Lib.hid ((C2.out.block _ (by omega) (by omega)).trans HN1.out)
  have hs2 := C2.out.size
  clear HW C2 HN1
  go_loopw [6] (fun x V => ∃ (r p j : Nat) (ts : List TY.Nd) (A : Option Addr) (c : Nat) (cs : List Value), x = .int .i64 (r : Int) ∧ j + r ≤ 3 ∧ Hid (ts.length = j) ∧ Hid (ts ++ (TY.many st r p).1 = T) ∧ Hid ((TY.many st r p).2 = J) ∧ Hid (p + r * e ≤ i + 1 + 3 * e) ∧ Hid (Ex W V lo b L p) ∧
    Hid (V.heap[W.heap.size + 1]? = some (.cells #[.int .i64 11, .int .i64 0, .string ⟨#[]⟩, .slice A j c] 25 (0, 0))) ∧ Hid (TR 25 0 (W.heap.size + 1 + 1) V A j c (nds ts) cs) ∧ W.heap.size + 1 + 1 ≤ V.heap.size) (fun x _ => (intOf x).toNat)
  case atStart =>
    refine ⟨m, i + 1, 0, [], none, 0, [], rfl, by omega, rfl, ?_, ?_, ?_, X2.out, HN2.out, TR.nil _ _ _ _, by omega⟩
    · show [] ++ _ = _
      rw [HTJ.out]; rfl
    · show _ = _
      rw [HTJ.out]
    · show _ ≤ _
      have := Nat.mul_le_mul_right e (show m ≤ 3 by omega)
      omega
  case round =>
    obtain ⟨r, p, j, ts, A, c, cs, rfl, hjr, hjl, hT, hJ, hp, hX, hB, hR, hsz⟩ := hrel
    rcases Nat.eq_zero_or_pos r with h0 | h0
    · subst h0
      obtain rfl : ts = T := by have := hT.out; simpa [TY.many] using this
      have hpJ : p = J := hJ.out
      obtain ⟨q0, q1, q2, q3, p0, p1, p2, p3⟩ := hX.out.cells
      have u0 : wr.cell? ⟨W.heap.size + 1, 0, none⟩ = some (.int .i64 11) := cell_of_row wr _ 0 _ _ (0, 0) hB.out
      have u1 : wr.cell? ⟨W.heap.size + 1, 1, none⟩ = some (.int .i64 0) := cell_of_row wr _ 1 _ _ (0, 0) hB.out
      have u2 : wr.cell? ⟨W.heap.size + 1, 2, none⟩ = some (.string ⟨#[]⟩) := cell_of_row wr _ 2 _ _ (0, 0) hB.out
      have u3 : wr.cell? ⟨W.heap.size + 1, 3, none⟩ = some (.slice A j c) := cell_of_row wr _ 3 _ _ (0, 0) hB.out
      have hpb := hp.out
      have hnw := TR.node hR.out (by omega) 11 0 ⟨#[]⟩ (by decide)
      rw [nds_snd] at hnw
      go_wp2_with fail
      obtain ⟨U, hU⟩ : ∃ U, (((wr.setCell ⟨W.heap.size, 0, none⟩ (.int .i64 11)).setCell ⟨W.heap.size, 1, none⟩ (.int .i64 0)).setCell ⟨W.heap.size, 2, none⟩ (.string ⟨#[]⟩)).setCell ⟨W.heap.size, 3, none⟩ (.slice A j c) = U := ⟨_, rfl⟩
      rw [hU]
      obtain ⟨f1, f2, f3, f4⟩ := hX.out.fin 11 0 ⟨#[]⟩ (.slice A j c) (hnw.lower (by omega)) hU
      refine bodyPost_ret (ret_N rfl _ rfl f1) rfl ?_
      exact ⟨_, rfl, f2, hpJ ▸ f3, by omega, f4⟩
    · obtain ⟨r, rfl⟩ : ∃ q, r = q + 1 := ⟨r - 1, by omega⟩
      obtain ⟨⟨t5, j5⟩, h5⟩ : ∃ x, st p = x := ⟨_, rfl⟩
      have hmany : TY.many st (r + 1) p = (t5 :: (TY.many st r j5).1, (TY.many st r j5).2) := by
        rw [TY.many]
        simp only [h5]
      have hT' := hT.out
      have hJ' := hJ.out
      have hp' := hp.out
      rw [hmany] at hT' hJ'
      rw [Nat.add_mul, Nat.one_mul] at hp'
      have HT' := Lib.hid hT'
      have HJ' := Lib.hid hJ'
      have HP' := Lib.hid hp'
      have S5 := Lib.hid (fun V (h : Ex W V lo b L p) => sg HST.out h (by have := HI.out; omega) h5)
      have XD : Hid (Ex W wr.drew lo b L p) := ⟨hX.out.src, hX.out.box, hX.out.chg.drew, hX.out.lt⟩
      have c3 : wr.cell? ⟨W.heap.size + 1, 3, none⟩ = some (.slice A j c) := cell_of_row wr _ 3 _ _ (0, 0) hB.out
      clear hT hJ hp hmany h5 hT' hJ' hp'
      go_wp2_with fail
      go_region_law
        (first
          | (refine step_append_lies _ rfl (.tmp 15) (.tmp 19) 23 rfl (W.heap.size + 1 + 1) 25 i0 _ 4 56 Try.underlying23 HZ.out.1 HZ.out.2.1 HZ.out.2.2.1 HZ.out.2.2.2 rfl (by decide) (.slice A j c) j _ (by simp [Act.eval]) HO5.out ⟨w5.heap.size, 0, none⟩ 1 1 [.int .i64 k5, .int .i64 n5, .string s5, .slice A5 m5 c5] (by simp [Act.eval]) rfl (news_alloc _ _ _ _ rfl) (by simp [Value.oneCell']) (by decide) (by simp only [maxLen]; omega) (by omega) (by simp; omega) _ rfl ?_; intro g4 c4 w6 hown4 hgrow4 hat4 _; have hb6 := grown_kept hgrow4 HB5.out HO5.out (by omega); have d6 : w6.cell? ⟨W.heap.size + 1, 3, none⟩ = some (.slice A j c) := cell_of_row w6 _ 3 _ _ (0, 0) hb6; have f6 : w6.frozen? ⟨W.heap.size + 1, 3, none⟩ = false := by simp [World.frozen?, hb6])
          | (go_simp; go_at_call 44; refine (S5.out _ XD.out).mono ?_; clear S5; rintro x w5 ⟨k5, n5, s5, A5, m5, c5, rfl, V5, X5, B5, C5⟩; replace X5 := Lib.hid X5; replace V5 := Lib.hid V5; replace C5 := Lib.hid (show Chg (· = b) wr w5 from ((Chg.refl (· = b) wr).drew.trans C5 (fun _ _ h => h))); have hs5 := C5.out.size; have HB5 := Lib.hid ((C5.out.block _ (by omega) (by omega)).trans hB.out); have d5 : (w5.alloc (.cells #[.int .i64 k5, .int .i64 n5, .string s5, .slice A5 m5 c5] 25)).cell? ⟨W.heap.size + 1, 3, none⟩ = some (.slice A j c) := (((Below.refl w5.heap.size w5).alloc (Nat.le_refl _) _).cell (p := ⟨W.heap.size + 1, 3, none⟩) (heap_lt HB5.out)).trans (cell_of_row w5 _ 3 _ _ (0, 0) HB5.out); have e5 : w5.cell? ⟨W.heap.size + 1, 3, none⟩ = some (.slice A j c) := cell_of_row w5 _ 3 _ _ (0, 0) HB5.out; have HO5 := Lib.hid (TR.own hR.out C5.out (fun x hx => by omega) (.cells #[.int .i64 k5, .int .i64 n5, .string s5, .slice A5 m5 c5] 25))))
      all_goals
        obtain ⟨U, hU⟩ : ∃ U, w6.setCell ⟨W.heap.size + 1, 3, none⟩ (.slice (some ⟨g4, 0, none⟩) (j + 1) c4) = U := ⟨_, rfl⟩
        have hUk : ∀ x, x ≠ W.heap.size + 1 → U.heap[x]? = w6.heap[x]? := fun x hx => by rw [← hU]; exact Below.heap_setCell _ _ _ _ hx
        have hUs : U.heap.size = w6.heap.size := by rw [← hU]; simp [World.setCell]
        have hUb : U.heap[W.heap.size + 1]? = some (.cells #[.int .i64 11, .int .i64 0, .string ⟨#[]⟩, .slice (some ⟨g4, 0, none⟩) (j + 1) c4] 25 (0, 0)) := by
          rw [← hU]
          simp only [World.setCell, Array.getElem?_modify]
          simp [hb6]
        have hTR := TR.step (pre := []) (U := U) hR.out C5.out (fun x hx => by omega) hsz rfl V5.out hgrow4 (hat4.imp id fun h => by rw [h, World.size_alloc]; omega) hown4 (fun x hx => hUk x (by omega)) hUs
        have hc56 : Chg (W.heap.size + 1 ≤ ·) w5 U := by
          rw [← hU]
          exact ((grown_chg hgrow4 HO5.out).mono (fun _ _ h => Nat.le_of_succ_le h)).setCell (p := ⟨W.heap.size + 1, 3, none⟩) (fun _ => Nat.le_refl _) _
        have hXU : Ex W U lo b L j5 := ⟨X5.out.src.chg hc56 (by omega) (fun g hg => by have := X5.out.src.1; omega), (hc56.block _ (by omega) (by omega)).trans X5.out.box, X5.out.chg.trans hc56 (fun x hx h => by omega), X5.out.lt⟩
        have hs6 := hc56.size
        have G1 := Lib.hid hTR
        have G2 := Lib.hid hXU
        have G3 := Lib.hid hUb
        have HU := Lib.hid hU
        have HP2 := Lib.hid (show j5 + r * e ≤ i + 1 + 3 * e by have := HP'.out; omega)
        clear hTR hXU hUb hc56 hUk hU
        go_wp2_with fail
        rw [HU.out]
        go_roundw
        case rel => exact ⟨r, j5, j + 1, ts ++ [t5], some ⟨g4, 0, none⟩, c4, _, by go_num, by omega, by show _ = _; rw [List.length_append, hjl.out]; rfl, by show _ = _; rw [List.append_assoc]; exact HT'.out, HJ'.out, HP2.out, G2.out, G3.out, by rw [nds_snoc]; exact G1.out, by omega⟩
        case measure => simp [intOf]
end Go.Proofs.Ytofeidacffabdaa
