/-
  The queue of writes: mathematics, and what stays where an own row grows. No function of the program.
-/
import Derived.Test.YtgdefhlcgmibcaaDkP
namespace Go.Proofs.Ytgdefhlcgmibcaa
open Go Go.RowKit Go.Proofs

namespace DK
def queue (k : Nat) (ws : List Wr) : Dk := ws.foldl (fun d x => write d x.1 x.2) (new k)
theorem queue_snoc (k : Nat) (ws : List Wr) (x : Wr) : queue k (ws ++ [x]) = write (queue k ws) x.1 x.2 := by simp [queue]
theorem queue_len (k : Nat) (ws : List Wr) : (queue k ws).cells.length = k := by
  have key : ∀ (ws : List Wr) (d : Dk), (ws.foldl (fun d x => write d x.1 x.2) d).cells.length = d.cells.length := by
    intro ws
    induction ws with
    | nil => intro d; rfl
    | cons x ws ih => intro d; exact (ih _).trans (write_len _ _ _)
  rw [queue, key]
  simp [new]
theorem queue_ok (k : Nat) (hk : k ≤ 16) (ws : List Wr) : Ok (queue k ws) := by
  have key : ∀ (ws : List Wr) (d : Dk), Ok d → Ok (ws.foldl (fun d x => write d x.1 x.2) d) := by
    intro ws
    induction ws with
    | nil => intro d h; exact h
    | cons x ws ih => intro d h; exact ih _ (ok_write _ _ h)
  exact key ws _ (ok_new k hk)
theorem queue_eq' {k : Nat} : ∀ (n : Nat) {ws : List Wr}, ws.length = n → (∀ x ∈ ws, 0 ≤ x.1 ∧ x.1 < (k : Int)) → queue k ws = ⟨app (List.replicate k 0) (ws.take (ws.length - 4)), ws.drop (ws.length - 4)⟩
  | 0, ws, hn, _ => by
    obtain rfl := List.eq_nil_of_length_eq_zero hn
    rfl
  | n + 1, wx, hn, h => by
    obtain ⟨ws, x, rfl⟩ : ∃ ws x, wx = ws ++ [x] := by
      rcases List.eq_nil_or_concat wx with rfl | ⟨ws, x, e⟩
      · simp at hn
      · exact ⟨ws, x, by rw [e, List.concat_eq_append]⟩
    have ih := queue_eq' n (ws := ws) (by simpa using hn) fun y hy => h y (List.mem_append_left _ hy)
    have hx := h x (by simp)
    rw [queue_snoc]
    unfold write
    rw [if_pos (by rw [queue_len]; exact hx), ih]
    unfold full
    simp only [List.length_append, List.length_cons, List.length_nil, List.length_drop]
    by_cases h4 : ws.length < 4
    · rw [show ws.length - 4 = 0 by omega, show ws.length - 0 + 1 - 4 = 0 by omega, show ws.length + (0 + 1) - 4 = 0 by omega]
      simp [app]
    · obtain ⟨m, hm⟩ : ∃ m, ws.length = m + 4 := ⟨ws.length - 4, by omega⟩
      rw [hm, show m + 4 - 4 = m by omega, show m + 4 - m + 1 - 4 = 1 by omega, show m + 4 + (0 + 1) - 4 = m + 1 by omega]
      have hl : 1 ≤ (ws.drop m).length := by rw [List.length_drop]; omega
      rw [List.take_append_of_le_length hl, List.drop_append_of_le_length hl, List.drop_drop, List.take_append_of_le_length (by omega), List.drop_append_of_le_length (by omega), ← app_append, show m + 1 = m + 1 from rfl]
      congr 1
      congr 1
      rw [List.take_add]
theorem queue_eq {k : Nat} {ws : List Wr} (h : ∀ x ∈ ws, 0 ≤ x.1 ∧ x.1 < (k : Int)) : queue k ws = ⟨app (List.replicate k 0) (ws.take (ws.length - 4)), ws.drop (ws.length - 4)⟩ := queue_eq' _ rfl h
end DK
theorem grown_keep {w w' : World} {t t' : TypeId} {sz sz' lo n c base k : Nat} {A : Option Addr} {vs us : List Value} {x : Value} (h : Rw t sz lo w A n c vs) (_ : w.ownsRow base t' sz' x k us) (hg : w.grownBy w' x.ownBlock) (hlt : ∀ b, x.ownBlock = some b → b < lo) : Rw t sz lo w' A n c vs :=
  Rw.keepTo h (fun g _ hc hlo => hg.block g (blk_lt hc) (fun e => by have := hlt g e.symm; omega)) (Nat.le_refl _)
theorem grown_own {w w' : World} {t : TypeId} {sz n base : Nat} {vs : List Value} {x y : Value} (h : w.ownsRow base t sz y n vs) (hg : w.grownBy w' x.ownBlock) (hne : ∀ b, x.ownBlock = some b → y.ownBlock ≠ some b) : w'.ownsRow base t sz y n vs := by
  refine ⟨h.1, ?_⟩
  rcases h.2 with h0 | ⟨g, cap, cur, rfl, h1, h2, h3⟩
  · exact .inl h0
  · exact .inr ⟨g, cap, cur, rfl, h1, (hg.block g (blk_lt h2) (fun e => hne g e.symm rfl)).trans h2, h3⟩
theorem grown_blk {w w' : World} {g : Nat} {o : Obj} {x : Value} (h : w.heap[g]? = some o) (hg : w.grownBy w' x.ownBlock) (hne : x.ownBlock ≠ some g) : w'.heap[g]? = some o := (hg.block g (blk_lt h) (fun e => hne e.symm)).trans h
theorem own_lt {w : World} {t : TypeId} {sz n base : Nat} {vs : List Value} {x : Value} (h : w.ownsRow base t sz x n vs) : ∀ b, x.ownBlock = some b → b < w.heap.size := fun b hb => (World.ownsRow.lt h b hb).2
/-- Own rows stay where another block turns. -/
theorem own_other' {V V' : World} {t : TypeId} {sz base G n : Nat} {x : Value} {vs : List Value} (h : V.ownsRow base t sz x n vs) (ho : ∀ b, b ≠ G → V'.heap[b]? = V.heap[b]?) (hG : x.ownBlock ≠ some G) : V'.ownsRow base t sz x n vs := by
  refine ⟨h.1, ?_⟩
  rcases h.2 with h0 | ⟨g, cap, cur, rfl, h1, h2, h3⟩
  · exact .inl h0
  · exact .inr ⟨g, cap, cur, rfl, h1, (ho g (fun e => hG (by rw [e]; rfl))).trans h2, h3⟩
theorem own_keepD {w w' : World} {t : TypeId} {sz n base : Nat} {vs : List Value} {x : Value} (h : w.ownsRow base t sz x n vs) (hk : KeepD w w') (ht : t ≠ 26) : w'.ownsRow base t sz x n vs := by
  refine ⟨h.1, ?_⟩
  rcases h.2 with h0 | ⟨g, cap, cur, e, h1, h2, h3⟩
  · exact .inl h0
  · exact .inr ⟨g, cap, cur, e, h1, (hk g _ _ h2 ht).trans h2, h3⟩
theorem own_ne_disk {w : World} {sz n base b : Nat} {vs : List Value} {x : Value} {Y : Array Value} (h : w.ownsRow base 3 sz x n vs) (hb : w.heap[b]? = some (.cells Y 26 (0, 0))) : x.ownBlock ≠ some b := fun e => by
  rcases h.2 with ⟨rfl, _⟩ | ⟨g, cap, cur, rfl, _, h2, _⟩
  · cases e
  · injection e with e
    exact dk_ne h2 hb (by decide) e
end Go.Proofs.Ytgdefhlcgmibcaa
