/-
  The reference's source: next. Conditions: the source lies in a block of its own, its numbers below.
-/
import Derived.Test.YtligbandpmgmaaaTyWt
import Derived.Test.YtligbandpmgmaaaAround
import Derived.IntWalk
import Derived.BigQuiet
namespace Go.Proofs.Ytligbandpmgmaaa
open Go Go.RowKit Go.Proofs Go.Shelf
attribute [local go_sem] Oper.semAt_some

/-- A source in block b: its numbers L, below lo; the next place is i. -/
def SrcV (W : World) (lo b : Nat) (L : List Int) (i : Nat) : Prop := lo ≤ b ∧ ∃ A c, W.heap[b]? = some (.cells #[.slice A L.length c, .int .i64 (i : Int)] 43 (0, 0)) ∧ L.length ≤ c ∧ c ≤ maxLen ∧ L.length ≤ 1000000 ∧ Ints .i64 lo W A L.length L ∧ ∀ z ∈ L, I64 z
theorem SrcV.chg {W W' : World} {lo b i : Nat} {L : List Int} {S : Nat → Prop} (h : SrcV W lo b L i) (hc : Chg S W W') (hb : ¬ S b) (hl : ∀ g, S g → lo ≤ g) : SrcV W' lo b L i := by
  obtain ⟨h0, A, c, h1, h2, h3, h4, h5, h6⟩ := h
  have hlt := heap_lt h1
  refine ⟨h0, A, c, (hc.block b hlt hb).trans h1, h2, h3, h4, h5.below (hc.below (fun g _ hg => hl g hg) (by omega)), h6⟩
theorem nxt_none {L : List Int} {i m : Nat} (h : L.length ≤ i) : TY.nxt L i m = 0 := by
  unfold TY.nxt
  rw [List.getElem?_eq_none h]
theorem nxt_some {L : List Int} {i m : Nat} {z : Int} (h : L[i]? = some z) : (TY.nxt L i m : Int) = (around z 1000000007).tmod (m : Int) := by
  unfold TY.nxt around
  rw [h]
  show ((((if z < 0 then -(z + 1) else z) % 1000000007).toNat % m : Nat) : Int) = _
  obtain ⟨x, hx⟩ : ∃ x, (if z < 0 then -(z + 1) else z) = x := ⟨_, rfl⟩
  rw [hx]
  have h0 := Int.emod_nonneg x (b := 1000000007) (by decide)
  rw [Int.tmod_eq_emod_of_nonneg h0, Int.natCast_emod, Int.toNat_of_nonneg h0]
set_option maxHeartbeats 2000000 in
theorem next_any (W : World) (lo b : Nat) (L : List Int) (i m : Nat) (h : SrcV W lo b L i) (hi : i ≤ 1000000000) (hm : 0 < m) (hm2 : m ≤ 1000) :
    Calls Try.prog 12 #[.pointer (some ⟨b, 0, none⟩), .int .i64 (m : Int)] W fun e w' => e = .returned (.int .i64 (TY.nxt L i m : Int)) ∧ SrcV w' lo b L (i + 1) ∧ Chg (· = b) W w' := by
  obtain ⟨h0, A, c, h1, h2, h3, h4, h5, h6⟩ := h
  have hlt := heap_lt h1
  obtain ⟨W1, hW1⟩ : ∃ U, W.setCell ⟨b, 1, none⟩ (.int .i64 ((i : Int) + 1)) = U := ⟨_, rfl⟩
  have g1 : W1.heap[b]? = some (.cells #[.slice A L.length c, .int .i64 (((i + 1 : Nat)) : Int)] 43 (0, 0)) := by
    rw [← hW1]
    simp only [World.setCell, Array.getElem?_modify]
    simp [h1]
  have hc1 : Chg (· = b) W W1 := by rw [← hW1]; exact (Chg.refl (· = b) W).setCell (p := ⟨b, 1, none⟩) (fun _ => rfl) _
  have i1 : Ints .i64 lo W1 A L.length L := h5.below (hc1.below (fun g _ e => by omega) (by omega))
  have c0 : W.cell? ⟨b, 0, none⟩ = some (.slice A L.length c) := cell_of_row W b 0 _ _ (0, 0) h1
  have c1 : W.cell? ⟨b, 1, none⟩ = some (.int .i64 (i : Int)) := cell_of_row W b 1 _ _ (0, 0) h1
  have f1 : W.frozen? ⟨b, 1, none⟩ = false := by simp [World.frozen?, h1]
  have d0 : W1.cell? ⟨b, 0, none⟩ = some (.slice A L.length c) := cell_of_row W1 b 0 _ _ (0, 0) g1
  have d1 : W1.cell? ⟨b, 1, none⟩ = some (.int .i64 ((i : Int) + 1)) := by
    have := cell_of_row W1 b 1 _ _ (0, 0) g1
    rw [this]
    simp
  have HF := Lib.hid (show ∀ q, SrcV (W1.drewN q) lo b L (i + 1) ∧ Chg (· = b) W (W1.drewN q) from fun q => ⟨⟨h0, A, c, g1, h2, h3, h4, i1, h6⟩, hc1.drewN q⟩)
  have HF2 := Lib.hid (show ∀ q q2, SrcV ((W1.drewN q).drewN q2) lo b L (i + 1) ∧ Chg (· = b) W ((W1.drewN q).drewN q2) from fun q q2 => ⟨⟨h0, A, c, g1, h2, h3, h4, i1, h6⟩, (hc1.drewN q).drewN q2⟩)
  have HW1 := Lib.hid hW1
  have HI := Lib.hid i1
  have H6 := Lib.hid h6
  clear g1 hc1 i1 h1 h5 h6 hW1
  by_cases hil : i < L.length
  · obtain ⟨z, hz⟩ : ∃ z, L[i]? = some z := ⟨L[i]'hil, List.getElem?_eq_getElem hil⟩
    obtain ⟨bz, oz, rfl, hbz, hcz⟩ := HI.out.2 (by omega)
    have ez := hcz i hil
    rw [hz] at ez
    simp only [Option.getD_some] at ez
    have hzi := H6.out z (List.mem_of_getElem? hz)
    have HQ := Lib.hid (show ∀ U, Calls Try.prog 6 #[.int .i64 z, .int .i64 1000000007] U fun e w' => e = .returned (.int .i64 (around z 1000000007)) ∧ w' = U from fun U => (around_any z 1000000007 hzi (by decide) (by decide) U).mono fun _ _ h => ⟨h.1, h.2.symm⟩)
    have hnx := nxt_some (m := m) hz
    have hmz : ((m : Int) == 0) = false := by simp; omega
    obtain ⟨y, hy⟩ : ∃ y, around z 1000000007 = y := ⟨_, rfl⟩
    rw [hy] at HQ hnx
    rw [hnx]
    have hwr : IntKind.i64.wrap (y.tmod (m : Int)) = y.tmod (m : Int) := by
      rw [← hnx]
      have := TY.nxt_lt L i hm
      exact IntWalk.i64_in _ (by omega)
    have hg : decide ((L.length : Int) < (i : Int) + 1) = false := by rw [decide_eq_false_iff_not]; omega
    have hs1 : IntKind.i64.wrap (i : Int) = (i : Int) := IntWalk.i64_in _ (by omega)
    clear hcz hz hzi hnx hy H6
    go_enter Try.func12, Try.ntmps12
    go_wp2_with fail
    rw [HW1.out]
    go_quiet (fail)
    go_wp2_with fail
    have HF3 := Lib.hid (HF2.out nq)
    have d0' : (W1.drewN nq).cell? ⟨b, 0, none⟩ = some (.slice (some ⟨bz, oz, none⟩) L.length c) := d0
    have d1' : (W1.drewN nq).cell? ⟨b, 1, none⟩ = some (.int .i64 ((i : Int) + 1)) := d1
    have ez' : (W1.drewN nq).cell? ⟨bz, oz + i, none⟩ = some (.int .i64 z) := ez
    generalize W1.drewN nq = W2 at *
    clear d0 d1 ez HW1
    go_quiet (first | (go_at_call 6; refine Calls.quiet_of_same (HQ.out _)))
    go_wp2_with fail
    go_ret
    exact ⟨rfl, HF3.out _⟩
  · have hnx := nxt_none (m := m) (show L.length ≤ i by omega)
    rw [hnx]
    have hg : decide ((L.length : Int) < (i : Int) + 1) = true := by rw [decide_eq_true_iff]; omega
    clear hnx H6 HI HF2
    go_enter Try.func12, Try.ntmps12
    go_wp2_with fail
    rw [HW1.out]
    go_quiet (fail)
    go_wp2_with fail
    go_ret
    exact ⟨rfl, HF.out _⟩
end Go.Proofs.Ytligbandpmgmaaa
