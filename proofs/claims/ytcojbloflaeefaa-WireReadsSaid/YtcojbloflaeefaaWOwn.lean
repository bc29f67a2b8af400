/-
  Lemmas of the law WireOwn that other laws use, too. No condition.
-/
import Derived.Test.YtcojbloflaeefaaWLives
import Derived.Test.YtcojbloflaeefaaWSame
import Derived.Test.YtcojbloflaeefaaWPure
namespace Go.Proofs.Ytcojbloflaeefaa.LawWireOwn
open Go Go.RowKit

/-- The blocks from lo to hi lie as they lay. -/
def Mid (lo hi : Nat) (w w' : World) : Prop := ∀ k, lo ≤ k → k < hi → w'.heap[k]? = w.heap[k]?
theorem Mid.trans {lo hi : Nat} {a b c : World} (h : Mid lo hi a b) (k : Mid lo hi b c) : Mid lo hi a c := fun i h1 h2 => (k i h1 h2).trans (h i h1 h2)
theorem Mid.below {lo hi B : Nat} {w w' : World} (h : Below B w w') (hB : hi ≤ B) : Mid lo hi w w' := fun k _ h2 => h.block k (by omega)
theorem Mid.grown {lo hi p q : Nat} {w w' : World} {v : Value} (h : w.grownBy w' v.ownBlock) (hv : ∀ b, v.ownBlock = some b → p ≤ b ∧ b < q) (hs : hi ≤ w.heap.size) (hd : q ≤ lo ∨ hi ≤ p) : Mid lo hi w w' := fun k h1 h2 => h.block k (by omega) fun e => by
  have := hv k e.symm
  omega
theorem out_mid {base g : Nat} {w w' : World} {bs : List Int} (h : OutAt base w g bs) (hm : Mid base w.heap.size w w') : OutAt base w' g bs := by
  obtain ⟨A, m, c, h1, h2, h3, h4⟩ := h
  refine ⟨A, m, c, (hm g h2 h1.lt).trans h1, h2, h3, h4.1, ?_⟩
  rcases h4.2 with h5 | ⟨g', cap, cur, hv, hg, hh, r⟩
  · exact .inl h5
  · exact .inr ⟨g', cap, cur, hv, hg, (hm g' hg (heap_lt hh)).trans hh, r⟩
theorem own_mid {base n : Nat} {t : TypeId} {v : Value} {xs : List Value} {w w' : World} (h : w.ownsRow base t 1 v n xs) (hm : Mid base w.heap.size w w') : w'.ownsRow base t 1 v n xs := by
  refine ⟨h.1, ?_⟩
  rcases h.2 with h5 | ⟨g', cap, cur, hv, hg, hh, r⟩
  · exact .inl h5
  · exact .inr ⟨g', cap, cur, hv, hg, (hm g' hg (heap_lt hh)).trans hh, r⟩
theorem own_below2 {w w' : World} {base size n : Nat} {t : TypeId} {v : Value} {xs : List Value} (h : w.ownsRow base t size v n xs) (hb : Below w.heap.size w w') : w'.ownsRow base t size v n xs := by
  obtain ⟨h1, h2⟩ := h
  refine ⟨h1, ?_⟩
  rcases h2 with h2 | ⟨g, cap, cur, hv, hg, hh, r⟩
  · exact .inl h2
  · exact .inr ⟨g, cap, cur, hv, hg, (hb.block g (heap_lt hh)).trans hh, r⟩
/-- Where the row that the call owns lies; it is not frozen. -/
theorem own_at {w : World} {base n c : Nat} {t : TypeId} {A : Option Addr} {xs : List Value} (h : w.ownsRow base t 1 (.slice A n c) n xs) (i : Nat) (hi : i < n) :
    ∃ g u, A = some ⟨g, 0, none⟩ ∧ n ≤ c ∧ w.cell? ⟨g, i, none⟩ = some u ∧ w.frozen? ⟨g, i, none⟩ = false := by
  obtain ⟨h1, h2⟩ := h
  rcases h2 with ⟨_, h0⟩ | ⟨g, cap, cur, e, hg, hh, hn, _, hs, ht⟩
  · omega
  · injection e with e1 e2 e3
    subst e3
    refine ⟨g, cur[i]'(by omega), e1, hn, ?_, by simp [World.frozen?, hh]⟩
    rw [cell_of_row w g i cur t (0, 0) hh]
    exact Array.getElem?_eq_getElem (by omega)
theorem own_set {w : World} {base n c g : Nat} {t : TypeId} {xs : List Value} (h : w.ownsRow base t 1 (.slice (some ⟨g, 0, none⟩) n c) n xs) (i : Nat) (u : Value) : (w.setCell ⟨g, i, none⟩ u).ownsRow base t 1 (.slice (some ⟨g, 0, none⟩) n c) n (xs.set i u) := by
  obtain ⟨h1, h2⟩ := h
  refine ⟨by simpa using h1, ?_⟩
  rcases h2 with ⟨e, _⟩ | ⟨g', cap, cur, e, hg, hh, hn, hm, hs, ht⟩
  · injection e with e; cases e
  · injection e with e1 e2 e3
    injection e1 with e1
    injection e1 with e1
    subst e1 e3
    refine .inr ⟨g, c, cur.setIfInBounds i u, rfl, hg, ?_, hn, hm, by simpa using hs, ?_⟩
    · simp [World.setCell, Array.getElem?_modify, hh]
    · rw [Array.toList_setIfInBounds, List.take_set, ht]
theorem grown_set {w w' : World} {g n c : Nat} (h : w.grownBy w' (Value.slice (some ⟨g, 0, none⟩) n c).ownBlock) (i : Nat) (u : Value) : w.grownBy (w'.setCell ⟨g, i, none⟩ u) (Value.slice (some ⟨g, 0, none⟩) n c).ownBlock :=
  ⟨h.os, h.tape, h.output, by simpa [World.setCell] using h.size, fun k hk hne => (Below.heap_setCell _ _ _ _ (fun e => hne (by rw [e]; rfl))).trans (h.block k hk hne)⟩
theorem grown_refl (w : World) (r : Option Nat) : w.grownBy w r := ⟨rfl, rfl, rfl, Nat.le_refl _, fun _ _ _ => rfl⟩
theorem below_grown {B : Nat} {a w w' : World} {v : Value} (h : Below B a w) (hg : w.grownBy w' v.ownBlock) (hB : B ≤ w.heap.size) (hv : ∀ b, v.ownBlock = some b → B ≤ b) : Below B a w' := h.grown hg hB hv

set_option maxHeartbeats 400000 in
theorem newin_mid (A : Option Addr) (n c : Nat) (zs : List Int) (w : World) (B : Nat) (hz : Lst 5 .u8 B w A n c zs) (hn : n ≤ 1000000) (h8 : ∀ x ∈ zs, B8 x) :
    Calls Try.prog 15 #[.slice A n c] w fun e w' => ∃ g, e = .returned (.pointer (some ⟨g, 0, none⟩)) ∧ w.heap.size ≤ g ∧ (∀ w'', Mid w.heap.size w'.heap.size w' w'' → InAt w'.heap.size w'' g (.ok zs)) ∧ Below w.heap.size w w' := by
  go_enter Try.func15, Try.ntmps15
  go_wp2_with fail
  refine (clone_any _ _ _ _ zs _ hz hn).mono ?_
  rintro e w1 ⟨A', n', c', rfl, h1, h2, h3, h4⟩
  have hn' : n' ≤ 1000000 := by rw [← h1, hz.len]; exact hn
  have H1 := Lib.hid h1
  clear h1 hz
  have H8 := Lib.hid h8
  clear h8
  go_wp2_with fail
  go_ret
  have hs := h4.size
  refine ⟨w1.heap.size, rfl, hs, fun w'' hm => ⟨A', n', c', ?_, ?_, H8.out, hn'⟩, h4.alloc hs _⟩
  · exact (hm w1.heap.size hs (by simp)).trans (World.alloc_heap_new w1 _)
  · have ho : (w1.alloc (.cells #[.slice A' n' c', .int .i64 0] 65)).ownsRow w.heap.size 5 1 (.slice A' n' c') n' (zs.map (Value.int .u8)) := own_below2 h3 ((Below.refl _ _).alloc (Nat.le_refl _) _)
    have ho2 := own_mid ho hm
    obtain ⟨l1, l2, l3, l4⟩ := Lst.of_own ho2
    refine ⟨l1, l2, l3, ?_⟩
    rcases l4 with l4 | ⟨b, off, C, e, hb, hC, hj⟩
    · exact .inl l4
    · refine .inr ⟨b, off, C, e, ?_, hC, hj⟩
      have := (ho.lt b (by rw [e]; rfl)).2
      simpa using this
end Go.Proofs.Ytcojbloflaeefaa.LawWireOwn
