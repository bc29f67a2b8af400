/-
  The reference's source: pick; Name. Conditions: the source lies in a block of its own.
-/
import Derived.Test.YtligbandpmgmaaaTySo
namespace Go.Proofs.Ytligbandpmgmaaa
open Go Go.RowKit Go.Proofs Go.Shelf
attribute [local go_sem] Oper.semAt_some

set_option maxHeartbeats 2000000 in
theorem pick_any (W : World) (lo b : Nat) (L : List Int) (i : Nat) (h : SrcV W lo b L i) (hi : i ≤ 1000000000) (g : Nat) (hgb : g ≠ b) (C : Array Value) (hg : W.heap[g]? = some (.cells C 9 (0, 0))) (l : List ByteArray) (m : Nat) (hm : 0 < m) (hm2 : m ≤ 1000) (hc : ∀ j, j < m → C[j]? = some (.string (TY.pick l j))) :
    Calls Try.prog 19 #[.pointer (some ⟨b, 0, none⟩), .slice (some ⟨g, 0, none⟩) m m] W fun e w' => e = .returned (.string (TY.pick l (TY.nxt L i m))) ∧ SrcV w' lo b L (i + 1) ∧ Chg (· = b) W w' := by
  have HN := Lib.hid (next_any W lo b L i m h hi hm hm2)
  have hlt := TY.nxt_lt L i hm
  have HK := Lib.hid (show ∀ V, Chg (· = b) W V → V.cell? ⟨g, TY.nxt L i m, none⟩ = some (.string (TY.pick l (TY.nxt L i m))) from fun V hV => by
    rw [cell_of_row V g _ C _ (0, 0) ((hV.block g (heap_lt hg) hgb).trans hg)]
    exact hc _ hlt)
  obtain ⟨x, hx⟩ : ∃ x, TY.nxt L i m = x := ⟨_, rfl⟩
  obtain ⟨s, hs⟩ : ∃ s, TY.pick l x = s := ⟨_, rfl⟩
  rw [hx, hs] at HK
  rw [hx] at HN hlt
  rw [hx, hs]
  clear h hg hc hx hs
  go_enter Try.func19, Try.ntmps19
  go_wp2_with (first
    | (go_at_call 12; refine HN.out.mono ?_; clear HN; rintro e w2 ⟨rfl, hs2, hc2⟩; have hcx := HK.out _ hc2; have HS2 := Lib.hid hs2; have HC2 := Lib.hid hc2; clear hs2 hc2))
  go_ret
  exact ⟨rfl, HS2.out, HC2.out⟩
set_option maxRecDepth 100000 in
set_option maxHeartbeats 2000000 in
theorem Name_any (n : Int) (hn : I64 n) (W : World) : Calls Try.prog 17 #[.int .i64 n] W fun e w' => e = .returned (.string (TY.vName (around n 10).toNat)) ∧ w' = W := by
  have HA := Lib.hid (around_any n 10 hn (by decide) (by decide) W)
  have h0 := around_in n 10 (by decide)
  obtain ⟨x, hx⟩ : ∃ x : Nat, around n 10 = (x : Int) := Int.eq_ofNat_of_zero_le h0.1
  rw [hx] at HA h0
  rw [hx, Int.toNat_natCast]
  have hx10 : x < 10 := by omega
  clear hx h0
  have hx' : x = 0 ∨ x = 1 ∨ x = 2 ∨ x = 3 ∨ x = 4 ∨ x = 5 ∨ x = 6 ∨ x = 7 ∨ x = 8 ∨ x = 9 := by omega
  clear hx10
  rcases hx' with rfl | rfl | rfl | rfl | rfl | rfl | rfl | rfl | rfl | rfl
  all_goals
    go_enter Try.func17, Try.ntmps17
    go_wp2_with (first
      | (go_at_call 6; refine HA.out.mono ?_; clear HA; rintro e w2 ⟨rfl, rfl⟩))
    go_ret
    exact ⟨rfl, rfl⟩
end Go.Proofs.Ytligbandpmgmaaa
