/-
  The reference's Program: the program of some numbers. Condition: the numbers are integers.
  The comparator of the parser's handlers. No condition.
  The program's Same of two programs, whole. No condition but that the values are programs.
-/
import Derived.Test.YtlfpaemfhanpiaaGreatDoorK38
import Derived.Test.YtlfpaemfhanpiaaGreatDoorK4
import Derived.Test.YtlfpaemfhanpiaaGreatDoorK31
import Derived.Test.YtlfpaemfhanpiaaGreatDoorK32

namespace Go.Proofs.YtlfpaemfhanpiaaGreatDoor
open Go Go.RowKit Go.Proofs
attribute [local go_sem] Oper.semAt_some

/-- How many numbers a statement of depth d takes at most. -/
def esg : Nat → Nat
  | 0 => 100
  | d + 1 => 100 + 2 * (1 + 3 * esg d)
theorem stm_any (L : List Int) : ∀ d : Nat, d ≤ 100 → GAt 36 L [(d : Int)] (PG.genS L d) (esg d)
  | 0, _ => st_leaf L 0 (by decide)
  | d + 1, h => by
    have hs : GAt 18 L [((d + 1 : Nat) : Int) - 1, 2] (PG.blockG L (PG.genS L d) 2) (1 + 3 * esg d) := by
      rw [show (((d + 1 : Nat) : Int) - 1) = (d : Int) by omega]
      exact blk_any L (d : Int) 2 (by decide) (PG.genS L d) (esg d) (stm_any L d (by omega))
    exact st_more L (d + 1) (1 + 3 * esg d) (PG.blockG L (PG.genS L d) 2) (by omega) h hs
theorem bl3_any (L : List Int) : GAt 18 L [2, 3] (PG.blockG L (PG.genS L 2) 3) 20000 :=
  (blk_any L 2 3 (by decide) (PG.genS L 2) (esg 2) (stm_any L 2 (by decide))).more (by decide)
theorem info_hanG : (Tryz.prog.info? 48).map (fun i => (i.zero, i.size, i.bytes)) = some (some (.agg #[.int .i64 0, .int .i64 0, .int .i64 0, .string ⟨#[]⟩, .slice none 0 0]), 5, 64) := by kernel_rfl
theorem hnd2_snoc (on : List PS.Hd) (x : Nat) (t : TY.Nd) : hnd2 (on ++ [(x, t)]) = hnd2 on ++ [([.int .i64 (x : Int)], t)] := by simp [hnd2]
theorem gen_new {w0 w1 : World} {A : Option Addr} {c : Nat} {L : List Int} (hc : L.length ≤ c) (hm : c ≤ maxLen) (ho : w1.ownsRow w0.heap.size 3 1 (.slice A L.length c) L.length (L.map (Value.int .i64))) (hl : L.length ≤ 1000000) (hz : ∀ z ∈ L, I64 z) :
    GenV (w1.alloc (.cells #[.slice A L.length c, .int .i64 0] 44)) w1.heap.size w1.heap.size L 0 :=
  ⟨Nat.le_refl _, A, c, World.alloc_heap_new w1 _, hc, hm, hl, (Ints.of_own rfl ho).alloc (Nat.le_refl _) _, hz⟩
theorem gnp {V : World} {lo b i : Nat} {L : List Int} {m : Nat} (hi : i ≤ 1000000000) (hm : 0 < m) (hm2 : m ≤ 1000) (mi : Int) (hmi : (m : Int) = mi) (h : GenV V lo b L i) {x : Nat} (hx : PG.nx L i m = x) :
    Calls Tryz.prog 17 #[.pointer (some ⟨b, 0, none⟩), .int .i64 mi] V fun e w' => e = .returned (.int .i64 (x : Int)) ∧ GenV w' lo b L (i + 1) ∧ Chg (· = b) V w' := by
  subst hmi hx
  exact pick_any V lo b L i m h hi hm hm2
theorem numsG {V : World} {g n2 n3 : Nat} (h : V.heap[g]? = some (.cells #[.int .i64 0, .int .i64 1, .int .i64 (2 + (n2 : Int)), .int .i64 (10 + (n3 : Int))] 3 (0, 0))) {i : Nat} (hi : i < 4) : V.cell? ⟨g, i, none⟩ = some (.int .i64 ((([0, 1, 2 + n2, 10 + n3] : List Nat)[i]?.getD 0 : Nat) : Int)) := by
  rw [cell_of_row V g i _ _ (0, 0) h]
  match i, hi with
  | 0, _ => rfl
  | 1, _ => rfl
  | 2, _ => show some (Value.int .i64 (2 + (n2 : Int))) = some (.int .i64 ((2 + n2 : Nat) : Int)); congr 2
  | 3, _ => show some (Value.int .i64 (10 + (n3 : Int))) = some (.int .i64 ((10 + n3 : Nat) : Int)); congr 2
theorem own_slcG {w : World} {base size n c : Nat} {e : TypeId} {A : Option Addr} {xs : List Value} (h : w.ownsRow base e size (.slice A n c) n xs) : n ≤ c ∧ c ≤ maxLen := by
  rcases h.2 with ⟨e1, rfl⟩ | ⟨g, cap, cur, e1, _, _, h1, h2, _⟩
  · injection e1 with _ _ e3
    subst e3
    exact ⟨Nat.le_refl _, by simp [maxLen]⟩
  · injection e1 with _ _ e3
    subst e3
    exact ⟨h1, h2⟩
theorem own_keepG {w w' : World} {base size n : Nat} {t : TypeId} {v : Value} {xs : List Value} (h : w.ownsRow base t size v n xs) (hb : ∀ k, v.ownBlock = some k → w'.heap[k]? = w.heap[k]?) : w'.ownsRow base t size v n xs := own_of_block h hb
/-- The row of two names in a new block. -/
theorem dl_new (w : World) (a b : PS.Bs) (lo : Nat) (hl : lo ≤ w.heap.size) : Dl (w.alloc (.cells #[.string (PS.bs a), .string (PS.bs b)] 9)) lo (.slice (some ⟨w.heap.size, 0, none⟩) 2 2) [a, b] :=
  World.ownsRow_lit (size := 1) w #[.string (PS.bs a), .string (PS.bs b)] 2 hl (by simp [maxLen]) rfl
set_option maxRecDepth 100000 in
set_option maxHeartbeats 16000000 in
theorem Program_any (a : Option Addr) (n c : Nat) (zs : List Int) (W : World) (hS : Slc .i64 W a n c zs) (hz : ∀ z ∈ zs, I64 z) :
    Calls Tryz.prog 6 #[.slice a n c] W fun r w' => ∃ v, r = .returned v ∧ UV3 W.heap.size w' (PG.unit zs) v ∧ Below W.heap.size W w' := by
  obtain ⟨W0, hW0⟩ : ∃ U, W.alloc (.cells #[.slice none 0 0, .slice none 0 0, .slice none 0 0] 26) = U := ⟨_, rfl⟩
  have hb0 : Below W.heap.size W W0 := by rw [← hW0]; exact (Below.refl _ _).alloc (Nat.le_refl _) _
  have z0 : W0.heap.size = W.heap.size + 1 := by rw [← hW0, World.size_alloc]
  have hbox : W0.heap[W.heap.size]? = some (.cells #[.slice none 0 0, .slice none 0 0, .slice none 0 0] 26 (0, 0)) := by
    rw [← hW0]
    exact World.alloc_heap_new W _
  have hI := intsG_any a n c zs 70 (by decide) (by decide) W0 (hS.below hb0)
  unfold PG.unit
  obtain ⟨L, hL⟩ : ∃ L, zs.take 70 = L := ⟨_, rfl⟩
  rw [show Int.toNat 70 = 70 from rfl, hL] at hI
  rw [hL]
  have hLz : ∀ z ∈ L, I64 z := fun z h => hz z (List.mem_of_mem_take (hL ▸ h))
  have hLl : L.length ≤ 70 := by rw [← hL, List.length_take]; omega
  have HI := Lib.hid hI
  obtain ⟨ON, hON⟩ : ∃ ON, PG.onG L 4 0 0 = ON := ⟨_, rfl⟩
  rw [hON]
  have HON := Lib.hid hON
  have HW0 := Lib.hid hW0
  have HB0 := Lib.hid hb0
  have HBX := Lib.hid hbox
  have HLZ := Lib.hid hLz
  clear hON hI hW0 hb0 hbox hLz hL hz hS
  go_enter Tryz.func6, Tryz.ntmps6
  obtain ⟨i2, hi2, hx0, hx1, hx2⟩ := info_parts info_hanG
  have HY := Lib.hid (And.intro hi2 (And.intro hx0 (And.intro hx1 hx2)))
  clear hi2 hx0 hx1 hx2
  go_wp2_with (first
    | (rw [HW0.out]; go_at_call 16; refine HI.out.mono ?_; clear HI; rintro e w1 ⟨A1, m1, c1, rfl, hl, hlst, hown, hb1⟩; subst hl; have HS1 := Lib.hid (gen_new hlst.2.1 hlst.2.2.1 hown (by omega) HLZ.out); have HB1 := Lib.hid hb1; have hz1 := hb1.size; clear hlst hown hb1))
  obtain ⟨b, hb⟩ : ∃ b, w1.heap.size = b := ⟨_, rfl⟩
  obtain ⟨W1, hW1⟩ : ∃ U, w1.alloc (.cells #[.slice A1 L.length c1, .int .i64 0] 44) = U := ⟨_, rfl⟩
  have z1 : W1.heap.size = b + 1 := by rw [← hW1, World.size_alloc, hb]
  rw [hW1, hb] at HS1
  rw [hb] at hz1
  obtain ⟨W2, hW2⟩ : ∃ U, W1.alloc (.cells #[.string (PS.bs [100]), .string (PS.bs [100, 100, 49])] 9) = U := ⟨_, rfl⟩
  have z2 : W2.heap.size = b + 1 + 1 := by rw [← hW2, World.size_alloc, z1]
  have hD2 : Dl W2 W.heap.size (.slice (some ⟨b + 1, 0, none⟩) 2 2) [[100], [100, 100, 49]] := by
    have := dl_new W1 [100] [100, 100, 49] W.heap.size (by omega)
    rw [hW2, z1] at this
    exact this
  obtain ⟨W3, hW3⟩ : ∃ U, W2.alloc (.cells #[.string (PS.bs [118]), .string (PS.bs [119, 50])] 9) = U := ⟨_, rfl⟩
  have z3 : W3.heap.size = b + 1 + 1 + 1 := by rw [← hW3, World.size_alloc, z2]
  have hV3 : Dl W3 W.heap.size (.slice (some ⟨b + 1 + 1, 0, none⟩) 2 2) [[118], [119, 50]] := by
    have := dl_new W2 [118] [119, 50] W.heap.size (by omega)
    rw [hW3, z2] at this
    exact this
  obtain ⟨W4, hW4⟩ : ∃ U, W3.alloc (.cells #[.slice (some ⟨b + 1, 0, none⟩) 2 2, .slice (some ⟨b + 1 + 1, 0, none⟩) 2 2, .slice none 0 0] 26) = U := ⟨_, rfl⟩
  have z4 : W4.heap.size = b + 4 := by rw [← hW4, World.size_alloc, z3]
  have hU4 : W4.heap[b + 1 + 1 + 1]? = some (.cells #[.slice (some ⟨b + 1, 0, none⟩) 2 2, .slice (some ⟨b + 1 + 1, 0, none⟩) 2 2, .slice none 0 0] 26 (0, 0)) := by
    have := World.alloc_heap_new W3 (.cells #[.slice (some ⟨b + 1, 0, none⟩) 2 2, .slice (some ⟨b + 1 + 1, 0, none⟩) 2 2, .slice none 0 0] 26)
    rw [hW4, z3] at this
    exact this
  have k12 : ∀ x, x < W1.heap.size → W2.heap[x]? = W1.heap[x]? := fun x hx => by rw [← hW2]; exact Below.heap_alloc W1 _ x hx
  have k23 : ∀ x, x < W2.heap.size → W3.heap[x]? = W2.heap[x]? := fun x hx => by rw [← hW3]; exact Below.heap_alloc W2 _ x hx
  have k34 : ∀ x, x < W3.heap.size → W4.heap[x]? = W3.heap[x]? := fun x hx => by rw [← hW4]; exact Below.heap_alloc W3 _ x hx
  have c14 : Chg (fun _ => False) W1 W4 := by rw [← hW4, ← hW3, ← hW2]; exact (((Chg.refl _ _).alloc _).alloc _).alloc _
  have HD := Lib.hid (show Dl W4 W.heap.size _ _ from hD2.keep fun q hq => by
    have := hD2.lt q hq
    exact (k34 q (by omega)).trans (k23 q (by omega)))
  have HVo := Lib.hid (show Dl W4 W.heap.size _ _ from hV3.keep fun q hq => by
    have := hV3.lt q hq
    exact k34 q (by omega))
  have HS4 := Lib.hid (HS1.out.chg c14 (fun e => e) (fun _ e => e.elim))
  have BW : Below W.heap.size W W4 := (HB0.out.trans (HB1.out.mono (by omega))).trans (by
    rw [← hW4, ← hW3, ← hW2, ← hW1]
    exact ((((Below.refl W.heap.size w1).alloc (by omega) _).alloc (by rw [World.size_alloc]; omega) _).alloc (by rw [World.size_alloc, World.size_alloc]; omega) _).alloc (by rw [World.size_alloc, World.size_alloc, World.size_alloc]; omega) _)
  have HR4 := Lib.hid (show W4.heap[W.heap.size]? = some (.cells #[.slice none 0 0, .slice none 0 0, .slice none 0 0] 26 (0, 0)) from (k34 W.heap.size (by omega)).trans ((k23 W.heap.size (by omega)).trans ((k12 W.heap.size (by omega)).trans (by rw [← hW1]; exact (Below.heap_alloc w1 _ _ (by omega)).trans ((HB1.out.block _ (by omega)).trans HBX.out)))))
  have HU4 := Lib.hid hU4
  have HBW := Lib.hid BW
  have hWW : (((w1.alloc (.cells #[.slice A1 L.length c1, .int .i64 0] 44)).alloc (.cells #[.string ⟨#[100]⟩, .string ⟨#[100, 100, 49]⟩] 9)).alloc (.cells #[.string ⟨#[118]⟩, .string ⟨#[119, 50]⟩] 9)).alloc (.cells #[.slice (some ⟨b + 1, 0, none⟩) 2 2, .slice (some ⟨b + 1 + 1, 0, none⟩) 2 2, .slice none 0 0] 26) = W4 := by
    rw [← hW4, ← hW3, ← hW2, ← hW1]
  rw [hb, hWW]
  clear hD2 hV3 hU4 k12 k23 k34 c14 BW hWW hW1 hW2 hW3 hW4 HS1 HB1 HBX HB0 HW0 HLZ z1 z2 z3
  go_loopw [5] (fun i V => ∃ (q h p j : Nat) (on : List PS.Hd) (A : Option Addr) (c : Nat) (cs : List Value), q + h = 4 ∧ i = .int .i64 (h : Int) ∧ j ≤ h ∧ Hid (on.length = j) ∧ Hid (on ++ PG.onG L q h p = ON) ∧ Hid (p ≤ h * 30000) ∧ Hid (GenV V b b L p) ∧ Hid (V.heap[b + 1 + 1 + 1]? = some (.cells #[.slice (some ⟨b + 1, 0, none⟩) 2 2, .slice (some ⟨b + 1 + 1, 0, none⟩) 2 2, .slice A j c] 26 (0, 0))) ∧ Hid (TR 48 1 (b + 4) V A j c (hnd2 on) cs) ∧ Hid (Chg (fun x => x = b ∨ x = b + 1 + 1 + 1 ∨ b + 4 ≤ x) W4 V)) (fun i _ => 4 - (intOf i).toNat)
  case atStart => exact ⟨4, 0, 0, 0, [], none, 0, [], rfl, rfl, Nat.le_refl _, rfl, HON.out, Nat.le_refl _, HS4.out, HU4.out, TR.nil _ _ _ _, Chg.refl _ _⟩
  case round =>
    obtain ⟨q, h, p, j, on, A, c, cs, hqh, rfl, hjh, hol, hOn, hp, hS, hB, hR, hC8⟩ := hrel
    have hsz8 := hC8.out.size
    rcases Nat.eq_zero_or_pos q with h0 | h0
    · subst h0
      obtain rfl : h = 4 := by omega
      obtain rfl : on = ON := by have := hOn.out; simpa [PG.onG] using this
      have rb : wr.heap[W.heap.size]? = some (.cells #[.slice none 0 0, .slice none 0 0, .slice none 0 0] 26 (0, 0)) := (hC8.out.block _ (by omega) (by omega)).trans HR4.out
      have u0 : wr.cell? ⟨b + 1 + 1 + 1, 0, none⟩ = some (.slice (some ⟨b + 1, 0, none⟩) 2 2) := cell_of_row wr _ 0 _ _ (0, 0) hB.out
      have u1 : wr.cell? ⟨b + 1 + 1 + 1, 1, none⟩ = some (.slice (some ⟨b + 1 + 1, 0, none⟩) 2 2) := cell_of_row wr _ 1 _ _ (0, 0) hB.out
      have u2 : wr.cell? ⟨b + 1 + 1 + 1, 2, none⟩ = some (.slice A j c) := cell_of_row wr _ 2 _ _ (0, 0) hB.out
      have p0 : wr.cell? ⟨W.heap.size, 0, none⟩ = some (.slice none 0 0) := cell_of_row wr _ 0 _ _ (0, 0) rb
      have p1 : wr.cell? ⟨W.heap.size, 1, none⟩ = some (.slice none 0 0) := cell_of_row wr _ 1 _ _ (0, 0) rb
      have p2 : wr.cell? ⟨W.heap.size, 2, none⟩ = some (.slice none 0 0) := cell_of_row wr _ 2 _ _ (0, 0) rb
      have r0 : wr.frozen? ⟨W.heap.size, 0, none⟩ = false := by simp [World.frozen?, rb]
      have r1 : wr.frozen? ⟨W.heap.size, 1, none⟩ = false := by simp [World.frozen?, rb]
      have r2 : wr.frozen? ⟨W.heap.size, 2, none⟩ = false := by simp [World.frozen?, rb]
      have HRB := Lib.hid rb
      clear rb
      go_wp2_with fail
      obtain ⟨Y, hY⟩ : ∃ U, ((wr.setCell ⟨W.heap.size, 0, none⟩ (.slice (some ⟨b + 1, 0, none⟩) 2 2)).setCell ⟨W.heap.size, 1, none⟩ (.slice (some ⟨b + 1 + 1, 0, none⟩) 2 2)).setCell ⟨W.heap.size, 2, none⟩ (.slice A j c) = U := ⟨_, rfl⟩
      rw [hY]
      have keep : ∀ g, g ≠ W.heap.size → Y.heap[g]? = wr.heap[g]? := fun g h1 => by
        rw [← hY]
        exact (Below.heap_setCell _ _ _ _ h1).trans ((Below.heap_setCell _ _ _ _ h1).trans (Below.heap_setCell _ _ _ _ h1))
      have zY : Y.heap.size = wr.heap.size := by rw [← hY]; simp [World.setCell]
      have bY : Below W.heap.size wr Y := by
        rw [← hY]
        exact (((Below.refl _ wr).setCell (p := ⟨W.heap.size, 0, none⟩) (Nat.le_refl _) _).setCell (p := ⟨W.heap.size, 1, none⟩) (Nat.le_refl _) _).setCell (p := ⟨W.heap.size, 2, none⟩) (Nat.le_refl _) _
      have rY : Y.heap[W.heap.size]? = some (.cells #[.slice (some ⟨b + 1, 0, none⟩) 2 2, .slice (some ⟨b + 1 + 1, 0, none⟩) 2 2, .slice A j c] 26 (0, 0)) := by
        rw [← hY]
        have := HRB.out
        simp only [World.setCell, Array.getElem?_modify]
        simp [this]
      have hbY : Below W.heap.size W Y := (HBW.out.trans (hC8.out.below (fun x _ h => by omega) (by omega))).trans bY
      have hkd : ∀ k, k < b + 3 → k ≠ b → k ≠ W.heap.size → Y.heap[k]? = W4.heap[k]? := fun k h1 h2 h3 => (keep k h3).trans (hC8.out.block k (by omega) (by omega))
      have hol' := hol.out
      subst hol'
      obtain ⟨h5, h6⟩ := own_slcG hR.out.2.1
      refine bodyPost_ret (ret_Un rfl _ rfl rY) rfl ?_
      refine ⟨_, rfl, ⟨_, _, A, c, cs, rfl, ?_, ?_, ?_, (show 2 + 2 ≤ 16 by decide), h5, h6⟩, hbY⟩
      · refine HD.out.keep fun k hk => ?_
        have hk : b + 1 = k := by simpa [Value.ownBlock] using hk
        exact hkd k (by omega) (by omega) (by omega)
      · refine HVo.out.keep fun k hk => ?_
        have hk : b + 1 + 1 = k := by simpa [Value.ownBlock] using hk
        exact hkd k (by omega) (by omega) (by omega)
      · exact TR.lower (hR.out.keep (fun x hx hl => keep x (by omega)) (by omega)) (by omega)
    · obtain ⟨q, rfl⟩ : ∃ x, q = x + 1 := ⟨q - 1, by omega⟩
      have hh4 : h < 4 := by omega
      have hh4' : (h : Int) < 4 := by omega
      have hpp := hp.out
      have hp9 : p ≤ 100000 := by have := Nat.mul_le_mul_right 30000 (show h ≤ 3 by omega); omega
      obtain ⟨y, hy⟩ : ∃ y, PG.nx L p 5 = y := ⟨_, rfl⟩
      have N5 := Lib.hid (gnp (by omega) (by decide) (by decide) 5 rfl hS.out hy)
      have hon := hOn.out
      rw [PG.onG, hy] at hon
      by_cases hy2 : 0 < y
      · rw [if_pos hy2] at hon
        obtain ⟨n2, hn2⟩ : ∃ x, PG.nx L (p + 1) 8 = x := ⟨_, rfl⟩
        obtain ⟨n3, hn3⟩ : ∃ x, PG.nx L (p + 2) 30 = x := ⟨_, rfl⟩
        have hn2l : n2 < 8 := hn2 ▸ PG.nx_lt _ _ (by decide)
        have hn3l : n3 < 30 := hn3 ▸ PG.nx_lt _ _ (by decide)
        rw [hn2, hn3] at hon
        have N6 := Lib.hid (fun V (hv : GenV V b b L (p + 1)) => gnp (by omega) (by decide) (by decide) 8 rfl hv hn2)
        have N7 := Lib.hid (fun V (hv : GenV V b b L (p + 2)) => gnp (by omega) (by decide) (by decide) 30 rfl hv hn3)
        obtain ⟨⟨t8, j8⟩, h8⟩ : ∃ x, PG.blockG L (PG.genS L 2) 3 (p + 3) = x := ⟨_, rfl⟩
        rw [h8] at hon
        obtain ⟨xn, hxn⟩ : ∃ x : Nat, ([0, 1, 2 + n2, 10 + n3] : List Nat)[h]?.getD 0 = x := ⟨_, rfl⟩
        rw [hxn] at hon
        have NA := fun (V : World) (g : Nat) hV => numsG (V := V) (g := g) (n2 := n2) (n3 := n3) hV hh4
        rw [hxn] at NA
        have HNA := Lib.hid NA
        have HON2 := Lib.hid hon
        have BL := Lib.hid (fun V (hv : GenV V b b L (p + 3)) => (h8 ▸ bl3_any L V b b (p + 3) hv (by omega)))
        clear hon hOn h8 hxn NA hy hn2 hn3
        go_wp2_with fail
        refine N5.out.mono ?_
        clear N5
        rintro e w7 ⟨rfl, S7, C7⟩
        have S7 := Lib.hid S7
        have C7 := Lib.hid C7
        go_wp2_with fail
        refine (N6.out _ S7.out).mono ?_
        clear N6
        rintro e w8 ⟨rfl, S8, C8⟩
        have S8 := Lib.hid S8
        have C8 := Lib.hid (C7.out.trans C8 (fun _ _ h => h))
        go_wp2_with fail
        refine (N7.out _ S8.out).mono ?_
        clear N7
        rintro e w9 ⟨rfl, S9, C9⟩
        have S9 := Lib.hid S9
        have C9 := Lib.hid (C8.out.trans C9 (fun _ _ h => h))
        have n9 := HNA.out (w9.alloc (.cells #[.int .i64 0, .int .i64 1, .int .i64 (2 + (n2 : Int)), .int .i64 (10 + (n3 : Int))] 3)) w9.heap.size (World.alloc_heap_new w9 _)
        have n9' : IntKind.i64.wrap (2 + (n2 : Int)) = 2 + (n2 : Int) := IntWalk.i64_in _ (by omega)
        have n9'' : IntKind.i64.wrap (10 + (n3 : Int)) = 10 + (n3 : Int) := IntWalk.i64_in _ (by omega)
        go_wp2_with fail
        obtain ⟨W9, hW9⟩ : ∃ U, w9.alloc (.cells #[.int .i64 0, .int .i64 1, .int .i64 (2 + (n2 : Int)), .int .i64 (10 + (n3 : Int))] 3) = U := ⟨_, rfl⟩
        have CW := Lib.hid (show Chg (· = b) wr W9 from by rw [← hW9]; exact C9.out.alloc _)
        have SW := Lib.hid (show GenV W9.drew b b L (p + 3) from (S9.out.chg (S := fun _ => False) (by rw [← hW9]; exact ((Chg.refl _ w9).alloc _).drew) (fun e => e) (fun _ e => e.elim)))
        rw [hW9]
        have hs9 := CW.out.size
        have HB9 := Lib.hid ((CW.out.block (b + 1 + 1 + 1) (by omega) (by omega)).trans hB.out)
        have a9 : W9.cell? ⟨b + 1 + 1 + 1, 2, none⟩ = some (.slice A j c) := cell_of_row W9 _ 2 _ _ (0, 0) HB9.out
        clear n9 n9' n9'' hW9 S7 C7 S8 C8 S9 C9
        go_region_law
          (first
            | (refine step_append_lies _ rfl (.tmp 32) (.tmp 37) 24 rfl (b + 4) 48 i2 _ 5 64 Tryz.underlying24 HY.out.1 HY.out.2.1 HY.out.2.2.1 HY.out.2.2.2 rfl (by decide) (.slice A j c) j _ (by simp [Act.eval]) HO8.out ⟨w11.heap.size, 0, none⟩ 1 1 [.int .i64 (xn : Int), .int .i64 k8, .int .i64 n8, .string s8, .slice A8 m8 c8] (by simp [Act.eval]) rfl (news_alloc _ _ _ _ rfl) (by simp [Value.oneCell']) (by decide) (by simp only [maxLen]; omega) (by omega) (by simp; omega) _ rfl ?_; intro g4 c4 w12 hown4 hgrow4 hat4 _; have hb12 := grown_kept hgrow4 HB11.out HO8.out (by omega); have d12 : w12.cell? ⟨b + 1 + 1 + 1, 2, none⟩ = some (.slice A j c) := cell_of_row w12 _ 2 _ _ (0, 0) hb12; have f12 : w12.frozen? ⟨b + 1 + 1 + 1, 2, none⟩ = false := by simp [World.frozen?, hb12])
            | (go_simp; go_at_call 18; refine (BL.out _ SW.out).mono ?_; clear BL; rintro x w11 ⟨v8, rfl, V8, S8', B8, C8'⟩; obtain ⟨k8, n8, s8, A8, m8, c8, rfl⟩ := V8.shape; replace S8' := Lib.hid S8'; replace V8 := Lib.hid V8; have C11 := Lib.hid (show Chg (· = b) wr w11 from (CW.out.drew).trans C8' (fun _ _ h => h)); have hs11 := C11.out.size; have hs911 : W9.heap.size ≤ w11.heap.size := C8'.size; clear C8'; have HB11 := Lib.hid ((C11.out.block (b + 1 + 1 + 1) (by omega) (by omega)).trans hB.out); have e11 : w11.cell? ⟨b + 1 + 1 + 1, 2, none⟩ = some (.slice A j c) := cell_of_row w11 _ 2 _ _ (0, 0) HB11.out; have d11 : (w11.alloc (.cells #[.int .i64 (xn : Int), .int .i64 k8, .int .i64 n8, .string s8, .slice A8 m8 c8] 48)).cell? ⟨b + 1 + 1 + 1, 2, none⟩ = some (.slice A j c) := (((Below.refl w11.heap.size w11).alloc (Nat.le_refl _) _).cell (p := ⟨b + 1 + 1 + 1, 2, none⟩) (heap_lt HB11.out)).trans e11; have HO8 := Lib.hid (TR.own hR.out C11.out (fun x hx => by omega) (.cells #[.int .i64 (xn : Int), .int .i64 k8, .int .i64 n8, .string s8, .slice A8 m8 c8] 48))))
        all_goals
          obtain ⟨U, hU⟩ : ∃ U, w12.setCell ⟨b + 1 + 1 + 1, 2, none⟩ (.slice (some ⟨g4, 0, none⟩) (j + 1) c4) = U := ⟨_, rfl⟩
          have hUk : ∀ x, x ≠ b + 1 + 1 + 1 → U.heap[x]? = w12.heap[x]? := fun x hx => by rw [← hU]; exact Below.heap_setCell _ _ _ _ hx
          have hUs : U.heap.size = w12.heap.size := by rw [← hU]; simp [World.setCell]
          have hUb : U.heap[b + 1 + 1 + 1]? = some (.cells #[.slice (some ⟨b + 1, 0, none⟩) 2 2, .slice (some ⟨b + 1 + 1, 0, none⟩) 2 2, .slice (some ⟨g4, 0, none⟩) (j + 1) c4] 26 (0, 0)) := by
            rw [← hU]
            simp only [World.setCell, Array.getElem?_modify]
            simp [hb12]
          have hTR := TR.step (pre := [.int .i64 (xn : Int)]) (U := U) hR.out C11.out (fun x hx => by omega) (by omega) rfl (V8.out.lower (show wr.heap.size ≤ W9.drew.heap.size from hs9)) hgrow4 (hat4.imp id fun h => by rw [h, World.size_alloc]; omega) hown4 (fun x hx => hUk x (by omega)) hUs
          have hc8U : Chg (fun x => x = b + 1 + 1 + 1 ∨ b + 4 ≤ x) w11 U := by
            rw [← hU]
            exact ((grown_chg hgrow4 HO8.out).mono (fun _ _ h => .inr h)).setCell (p := ⟨b + 1 + 1 + 1, 2, none⟩) (fun _ => .inl rfl) _
          have hSU : GenV U b b L j8 := S8'.out.chg hc8U (by omega) (fun g hg => by omega)
          have hCU : Chg (fun x => x = b ∨ x = b + 1 + 1 + 1 ∨ b + 4 ≤ x) W4 U := hC8.out.trans (C11.out.mono (fun _ _ h => .inl h) |>.trans (hc8U.mono (fun _ _ h => .inr h)) (fun _ _ h => h)) (fun _ _ h => h)
          have G1 := Lib.hid hTR
          have G2 := Lib.hid hSU
          have G3 := Lib.hid hUb
          have G4 := Lib.hid hCU
          have HU := Lib.hid hU
          clear hTR hSU hUb hCU hc8U hUk hU
          go_wp2_with fail
          rw [HU.out]
          go_roundw
          case rel => exact ⟨q, h + 1, j8, j + 1, on ++ [(xn, t8)], some ⟨g4, 0, none⟩, c4, _, by omega, by go_num, by omega, by show _ = _; rw [List.length_append, hol.out]; rfl, by show _ = _; rw [List.append_assoc]; exact HON2.out, by show _ ≤ _; omega, G2.out, G3.out, by rw [hnd2_snoc]; exact G1.out, G4.out⟩
          case measure => simp [intOf]; omega
      · rw [if_neg hy2] at hon
        have HON2 := Lib.hid hon
        clear hon hOn hy
        go_wp2_with (first
          | (go_at_call 17; refine N5.out.mono ?_; clear N5; rintro e w7 ⟨rfl, S7, C7⟩; replace C7 := Lib.hid C7; replace S7 := Lib.hid S7; have hs7 := C7.out.size; have HB7 := Lib.hid ((C7.out.block (b + 1 + 1 + 1) (by omega) (by omega)).trans hB.out)))
        go_roundw
        case rel => exact ⟨q, h + 1, p + 1, j, on, A, c, cs, by omega, by go_num, by omega, hol.out, HON2.out, by show _ ≤ _; omega, S7.out, HB7.out, hR.out.keep (fun x hx hl => C7.out.block x hl (by omega)) C7.out.size, hC8.out.trans C7.out (fun _ _ h => .inl h)⟩
        case measure => simp [intOf]; omega
end Go.Proofs.YtlfpaemfhanpiaaGreatDoor

namespace Go.Proofs.YtlfpaemfhanpiaaGreatDoor
open Go Go.RowKit Go.Proofs
attribute [local go_sem] Oper.semAt_some

/-- Compare of naturals. -/
def cmpN (a b : Nat) : Int := if a < b then -1 else if b < a then 1 else 0
set_option maxRecDepth 100000 in
theorem isNaN_any (x : Nat) (w : World) : Calls Tryz.prog 86 #[.int .i64 (x : Int)] w fun e w' => e = .returned (.bool false) ∧ w' = w := by
  go_enter Tryz.func86, Tryz.ntmps86
  go_wp2_with fail
  go_ret
  exact ⟨rfl, rfl⟩
set_option maxRecDepth 100000 in
theorem compare_any2 (a b : Nat) (w : World) : Calls Tryz.prog 63 #[.int .i64 (a : Int), .int .i64 (b : Int)] w fun e w' => e = .returned (.int .i64 (cmpN a b)) ∧ w' = w := by
  have H1 := isNaN_any a w
  have H2 := isNaN_any b w
  obtain ⟨q, hq⟩ : ∃ q, cmpN a b = q := ⟨_, rfl⟩
  rw [hq]
  unfold cmpN at hq
  by_cases h1 : a < b
  · rw [if_pos h1] at hq
    subst hq
    go_enter Tryz.func63, Tryz.ntmps63
    go_wp2_with (first
      | (go_at_call 86; refine H1.mono ?_; clear H1; rintro e w2 ⟨rfl, rfl⟩)
      | (go_at_call 86; refine H2.mono ?_; clear H2; rintro e w3 ⟨rfl, rfl⟩))
    go_ret
    exact ⟨rfl, rfl⟩
  · rw [if_neg h1] at hq
    by_cases h2 : b < a
    · rw [if_pos h2] at hq
      subst hq
      go_enter Tryz.func63, Tryz.ntmps63
      go_wp2_with (first
        | (go_at_call 86; refine H1.mono ?_; clear H1; rintro e w2 ⟨rfl, rfl⟩)
        | (go_at_call 86; refine H2.mono ?_; clear H2; rintro e w3 ⟨rfl, rfl⟩))
      go_ret
      exact ⟨rfl, rfl⟩
    · rw [if_neg h2] at hq
      subst hq
      go_enter Tryz.func63, Tryz.ntmps63
      go_wp2_with (first
        | (go_at_call 86; refine H1.mono ?_; clear H1; rintro e w2 ⟨rfl, rfl⟩)
        | (go_at_call 86; refine H2.mono ?_; clear H2; rintro e w3 ⟨rfl, rfl⟩))
      go_ret
      exact ⟨rfl, rfl⟩
/-- A handler's five cells. -/
abbrev hv5 (a : Nat) (k n : Int) (s : ByteArray) (A : Option Addr) (m c : Nat) : Array Value := #[.int .i64 (a : Int), .int .i64 k, .int .i64 n, .string s, .slice A m c]
set_option maxRecDepth 100000 in
theorem less_any (a b : Nat) (k n k' n' : Int) (s s' : ByteArray) (A A' : Option Addr) (m c m' c' : Nat) (W : World) : Calls Tryz.prog 62 #[.agg (hv5 a k n s A m c), .agg (hv5 b k' n' s' A' m' c')] W fun e w' => e = .returned (.int .i64 (cmpN a b)) ∧ w' = (W.alloc (.cells (hv5 a k n s A m c) 48)).alloc (.cells (hv5 b k' n' s' A' m' c') 48) := by
  have H1 := Lib.hid (compare_any2 a b)
  obtain ⟨q, hq⟩ : ∃ q, cmpN a b = q := ⟨_, rfl⟩
  rw [hq] at H1 ⊢
  clear hq
  go_enter Tryz.func62, Tryz.ntmps62
  go_wp2_with (first
    | (go_at_call 63; refine (H1.out _).mono ?_; clear H1; rintro e w2 ⟨rfl, rfl⟩))
  go_ret
  exact ⟨rfl, rfl⟩
end Go.Proofs.YtlfpaemfhanpiaaGreatDoor

namespace Go.Proofs.YtlfpaemfhanpiaaGreatDoor
open Go Go.RowKit Go.Proofs
attribute [local go_sem] Oper.semAt_some

theorem eqU_mk (d v : List PS.Bs) (o o' : List PS.Hd) : eqU ⟨d, v, o⟩ ⟨d, v, o'⟩ = eqH o o' := by
  by_cases h : o = o'
  · rw [eqH_t h, eqU_t (by rw [h])]
  · rw [eqH_f h, eqU_f (fun e => h (by injection e))]
set_option maxRecDepth 100000 in
set_option maxHeartbeats 4000000 in
theorem same_any (W : World) (lo lo' : Nat) (u u' : PS.Un) (v v' : Value) (h : UV3 lo W u v) (h' : UV3 lo' W u' v') (hm : u.on.length ≤ 1000000) (hd : u.dur.length ≤ 100000) (hvl : u.vol.length ≤ 100000) :
    Calls Tryz.prog 13 #[v, v'] W fun e w' => e = .returned (.bool (eqU u u')) ∧ Below W.heap.size W w' := by
  obtain ⟨x, y, A, c, cs, rfl, h1, h2, h3, _⟩ := h
  obtain ⟨x', y', A', c', cs', rfl, h1', h2', h3', _⟩ := h'
  obtain ⟨Ax, cx, rfl, r1⟩ := h1.form
  obtain ⟨Ay, cy, rfl, r2⟩ := h2.form
  obtain ⟨Ax', cx', rfl, r1'⟩ := h1'.form
  obtain ⟨Ay', cy', rfl, r2'⟩ := h2'.form
  obtain ⟨d, vl, on⟩ := u
  obtain ⟨d', vl', on'⟩ := u'
  simp only at r1 r2 r1' r2' h3 h3' hm hd hvl ⊢
  obtain ⟨W2, hW2⟩ : ∃ U, (W.alloc (.cells #[.slice Ax d.length cx, .slice Ay vl.length cy, .slice A on.length c] 26)).alloc (.cells #[.slice Ax' d'.length cx', .slice Ay' vl'.length cy', .slice A' on'.length c'] 26) = U := ⟨_, rfl⟩
  have hB2 : Below W.heap.size W W2 := by rw [← hW2]; exact ((Below.refl _ W).alloc (Nat.le_refl _) _).alloc (by rw [World.size_alloc]; omega) _
  have g1 : W2.heap[W.heap.size]? = some (.cells #[.slice Ax d.length cx, .slice Ay vl.length cy, .slice A on.length c] 26 (0, 0)) := by
    rw [← hW2, Below.heap_alloc _ _ _ (by rw [World.size_alloc]; omega)]
    exact World.alloc_heap_new W _
  have g2 : W2.heap[W.heap.size + 1]? = some (.cells #[.slice Ax' d'.length cx', .slice Ay' vl'.length cy', .slice A' on'.length c'] 26 (0, 0)) := by
    have := World.alloc_heap_new (W.alloc (.cells #[.slice Ax d.length cx, .slice Ay vl.length cy, .slice A on.length c] 26)) (.cells #[.slice Ax' d'.length cx', .slice Ay' vl'.length cy', .slice A' on'.length c'] 26)
    rw [World.size_alloc, hW2] at this
    exact this
  have cell3 : ∀ {V : World} {g : Nat} {a0 a1 a2 : Value}, V.heap[g]? = some (.cells #[a0, a1, a2] 26 (0, 0)) → V.cell? ⟨g, 0, none⟩ = some a0 ∧ V.cell? ⟨g, 1, none⟩ = some a1 ∧ V.cell? ⟨g, 2, none⟩ = some a2 := fun {V g a0 a1 a2} h => ⟨cell_of_row V g 0 _ _ (0, 0) h, cell_of_row V g 1 _ _ (0, 0) h, cell_of_row V g 2 _ _ (0, 0) h⟩
  have K1 := Lib.hid (show ∀ V, Below W2.heap.size W2 V → Calls Tryz.prog 27 #[.slice Ax d.length cx, .slice Ax' d'.length cx'] V fun e w' => e = .returned (.bool (decide (d = d'))) ∧ Below V.heap.size V w' from fun V hV => equalS_any V Ax Ax' d d' cx cx' hd ((r1.keep hB2).keep hV) ((r1'.keep hB2).keep hV))
  have K2 := Lib.hid (show ∀ V, Below W2.heap.size W2 V → Calls Tryz.prog 27 #[.slice Ay vl.length cy, .slice Ay' vl'.length cy'] V fun e w' => e = .returned (.bool (decide (vl = vl'))) ∧ Below V.heap.size V w' from fun V hV => equalS_any V Ay Ay' vl vl' cy cy' hvl ((r2.keep hB2).keep hV) ((r2'.keep hB2).keep hV))
  have K3 := Lib.hid (show ∀ V, Below W2.heap.size W2 V → Calls Tryz.prog 28 #[.slice A on.length c, .slice A' on'.length c', .func (.func 29) #[] #[]] V fun e w' => e = .returned (.bool (eqH on on')) ∧ Below V.heap.size V w' from fun V hV => by
    have hb := hB2.trans (hV.mono hB2.size)
    exact eqFuncH_any V lo lo' on on' A A' c c' cs cs' hm (h3.keep (fun z _ hl => hb.block z hl) hb.size) (h3'.keep (fun z _ hl => hb.block z hl) hb.size))
  have KC := Lib.hid (show ∀ V, Below W2.heap.size W2 V → _ ∧ _ from fun V hV => ⟨cell3 ((hV.block _ (heap_lt g1)).trans g1), cell3 ((hV.block _ (heap_lt g2)).trans g2)⟩)
  obtain ⟨⟨a0, a1, a2⟩, b0, b1, b2⟩ := KC.out W2 (Below.refl _ _)
  have HB := Lib.hid hB2
  have HW := Lib.hid hW2
  clear r1 r2 r1' r2' h1 h2 h3 h1' h2' h3' hB2 hW2 g1 g2 cell3 hm hd hvl
  by_cases e1 : d = d'
  · subst e1
    rw [decide_eq_true rfl] at K1
    by_cases e2 : vl = vl'
    · subst e2
      rw [decide_eq_true rfl] at K2
      rw [eqU_mk]
      go_enter Tryz.func13, Tryz.ntmps13
      go_wp2_with fail
      rw [HW.out]
      refine (K1.out _ (Below.refl _ _)).mono ?_
      rintro e w3 ⟨rfl, hb3⟩
      obtain ⟨⟨c0, c1, c2⟩, d0, d1, d2⟩ := KC.out w3 hb3
      have HB3 := Lib.hid hb3
      have HC := Lib.hid (K2.out _ hb3)
      clear hb3 a0 a1 a2 b0 b1 b2
      go_wp2_with fail
      refine HC.out.mono ?_
      clear HC c0 c1 c2 d0 d1 d2
      rintro e w4 ⟨rfl, hb4⟩
      have hb5 := HB3.out.trans (hb4.mono HB3.out.size)
      obtain ⟨⟨c0, c1, c2⟩, d0, d1, d2⟩ := KC.out w4 hb5
      have HB4 := Lib.hid hb5
      have HC := Lib.hid (K3.out _ hb5)
      clear hb4 hb5
      go_wp2_with fail
      refine HC.out.mono ?_
      clear HC c0 c1 c2 d0 d1 d2
      rintro e w5 ⟨rfl, hb5⟩
      have HB5 := Lib.hid (HB.out.trans ((HB4.out.trans (hb5.mono HB4.out.size)).mono HB.out.size))
      clear hb5
      go_wp2_with fail
      go_ret
      exact ⟨rfl, HB5.out⟩
    · rw [decide_eq_false e2] at K2
      have hr : eqU ⟨d, vl, on⟩ ⟨d, vl', on'⟩ = false := eqU_f (fun e => e2 (by injection e))
      rw [hr]
      clear e2 hr
      go_enter Tryz.func13, Tryz.ntmps13
      go_wp2_with fail
      rw [HW.out]
      refine (K1.out _ (Below.refl _ _)).mono ?_
      rintro e w3 ⟨rfl, hb3⟩
      obtain ⟨⟨c0, c1, c2⟩, d0, d1, d2⟩ := KC.out w3 hb3
      have HB3 := Lib.hid hb3
      have HC := Lib.hid (K2.out _ hb3)
      clear hb3 a0 a1 a2 b0 b1 b2
      go_wp2_with fail
      refine HC.out.mono ?_
      clear HC c0 c1 c2 d0 d1 d2
      rintro e w4 ⟨rfl, hb4⟩
      have HB4 := Lib.hid (HB.out.trans ((HB3.out.trans (hb4.mono HB3.out.size)).mono HB.out.size))
      clear hb4
      go_wp2_with fail
      go_ret
      exact ⟨rfl, HB4.out⟩
  · rw [decide_eq_false e1] at K1
    have hr : eqU ⟨d, vl, on⟩ ⟨d', vl', on'⟩ = false := eqU_f (fun e => e1 (by injection e))
    rw [hr]
    clear e1 hr
    go_enter Tryz.func13, Tryz.ntmps13
    go_wp2_with fail
    rw [HW.out]
    refine (K1.out _ (Below.refl _ _)).mono ?_
    rintro e w3 ⟨rfl, hb3⟩
    have HB3 := Lib.hid (HB.out.trans (hb3.mono HB.out.size))
    clear hb3 a0 a1 a2 b0 b1 b2
    go_wp2_with fail
    go_ret
    exact ⟨rfl, HB3.out⟩
end Go.Proofs.YtlfpaemfhanpiaaGreatDoor
