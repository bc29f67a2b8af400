/-
  The reference's put onto no answers. No condition.
  The reference's put, onto any row of answers. No condition but the lengths.
-/
import Derived.Test.YtiokiecnglmbnaaK17

namespace Go.Proofs.Ytiokiecnglmbnaa
open Go Go.RowKit Go.Proofs
attribute [local go_sem] Oper.semAt_some

set_option maxHeartbeats 2000000 in
set_option maxRecDepth 100000 in
theorem put_nil (a : TP.An) (w : World) :
    Calls Try.prog 44 #[.slice none 0 0, anV a] w fun e w' => (∃ B m c', e = .returned (.slice B m c') ∧ m ≤ c' ∧ Ans w' B m (TP.putA [] a)) ∧ Below w.heap.size w w' := by
  obtain ⟨i0, hi0, hz0, hs0, hb0⟩ := info_split' info_answer
  obtain ⟨U, hU⟩ : ∃ U, w.alloc (.cells #[.int .i64 a.1.c, .int .i64 a.1.h, .int .i64 a.1.t, .int .i64 a.1.k, .int .i64 a.1.i, .int .i64 a.2] 71) = U := ⟨_, rfl⟩
  have hb : Below w.heap.size w U := hU ▸ one_box w _
  have hlu : w.heap.size < U.heap.size := by rw [← hU]; simp
  have k1 : U.heap[w.heap.size]? = some (.cells #[.int .i64 a.1.c, .int .i64 a.1.h, .int .i64 a.1.t, .int .i64 a.1.k, .int .i64 a.1.i, .int .i64 a.2] 71 (0, 0)) := by rw [← hU]; exact new_at rfl
  have HK := Lib.hid (fun (V : World) (hV : Below U.heap.size U V) => show AnAt V w.heap.size 0 a from (show AnAt U w.heap.size 0 a from ⟨cell_of_row _ _ 0 _ _ (0, 0) k1, cell_of_row _ _ 1 _ _ (0, 0) k1, cell_of_row _ _ 2 _ _ (0, 0) k1, cell_of_row _ _ 3 _ _ (0, 0) k1, cell_of_row _ _ 4 _ _ (0, 0) k1, cell_of_row _ _ 5 _ _ (0, 0) k1⟩).keep hlu hV)
  have HB := Lib.hid hb
  clear k1 hb
  go_enter Try.func44, Try.ntmps44
  go_wp2_with fail
  clear hU
  go_loopw [5] (fun i V => i = .int .i64 0 ∧ Hid (Below U.heap.size U V)) (fun _ _ => 0)
  case atStart => exact ⟨rfl, Below.refl _ _⟩
  case round =>
    obtain ⟨rfl, HV⟩ := hrel
    go_upto_region 7 with (go_quiet (fail))
    have hv6 : Below U.heap.size U (wr.drewN nq) := HV.out.trans ((drewN_below wr nq).mono HV.out.size)
    obtain ⟨w6, h6⟩ : ∃ W, W = wr.drewN nq := ⟨_, rfl⟩
    rw [← h6] at hv6 ⊢
    have HV6 := Lib.hid hv6
    clear hv6 h6
    obtain ⟨p0, p1, p2, p3, p4, p5⟩ := HK.out w6 HV6.out
    have s6 := HV6.out.size
    go_upto_region 10 with (at_builtin; first
      | (refine RgX.wpList_append_any rfl _ _ 24 rfl U.heap.size 71 i0 _ 6 48 Try.underlying24 hi0 hz0 hs0 hb0 rfl (by decide) (.slice none 0 0) 0 [] rfl (World.ownsRow_nil _ _ _ _) none 0 0 [] rfl rfl (.inl ⟨rfl, rfl, rfl, rfl⟩) (fun u h => by simp at h) (by decide) (by decide) s6 ?_; intro B7 c7 w7 own7 gr7; obtain ⟨p0, p1, p2, p3, p4, p5⟩ := HK.out w7 (HV6.out.grown gr7 s6 (fun b e => by cases e)); have s7 := (HV6.out.grown gr7 s6 (fun b e => by cases e)).size)
      | (refine RgX.wpList_append_any rfl _ _ 24 rfl U.heap.size 71 i0 _ 6 48 Try.underlying24 hi0 hz0 hs0 hb0 rfl (by decide) _ _ _ rfl (own7.alloc (.cells (TP.anC a).toArray 71)) (some ⟨w7.heap.size, 0, none⟩) 1 1 (TP.anC a) rfl rfl (.inr ⟨_, rfl, World.news_of_block (World.alloc_heap_new w7 _)⟩) (fun u hu => by simp [TP.anC] at hu; rcases hu with rfl | rfl | rfl | rfl | rfl | rfl <;> rfl) (by decide) (by decide) (by simp; omega) ?_; intro B8 c8 w8 own8 gr8))
    have hb7 := HV6.out.grown gr7 s6 (fun b e => by cases e)
    have hb8 := (hb7.alloc hb7.size (.cells (TP.anC a).toArray 71)).grown gr8 (by simp; omega) (fun b e => ((own7.alloc (.cells (TP.anC a).toArray 71)).lt b e).1)
    have s8 := hb8.size
    go_wp2_with (at_builtin; refine RgX.wpList_append_any rfl _ _ 24 rfl U.heap.size 71 i0 _ 6 48 Try.underlying24 hi0 hz0 hs0 hb0 rfl (by decide) _ _ _ rfl own8 none 0 0 [] rfl rfl (.inl ⟨rfl, rfl, rfl, rfl⟩) (fun u h => by simp at h) (by decide) (by decide) s8 ?_; intro B9 c9 w9 own9 gr9)
    have hb9 := hb8.grown gr9 s8 (fun b e => (own8.lt b e).1)
    obtain ⟨hans, hcap⟩ := ans_of_own (L := TP.putA [] a) own9 rfl
    go_ret
    exact ⟨⟨B9, _, c9, rfl, hcap, hans⟩, HB.out.trans (hb9.mono HB.out.size)⟩
end Go.Proofs.Ytiokiecnglmbnaa

namespace Go.Proofs.Ytiokiecnglmbnaa
open Go Go.RowKit Go.Proofs

/-- A slice of answers: nil, or from its block's start. -/
def AnsR (w : World) (A : Option Addr) (n c : Nat) (l : List TP.An) : Prop := (A = none ∧ n = 0 ∧ c = 0 ∧ l = []) ∨ ∃ g, A = some ⟨g, 0, none⟩ ∧ g < w.heap.size ∧ n ≤ c ∧ l.length = n ∧ ∀ j x, l[j]? = some x → AnAt w g j x
theorem AnsR.len {w : World} {A : Option Addr} {n c : Nat} {l : List TP.An} (h : AnsR w A n c l) : l.length = n := by
  rcases h with ⟨_, rfl, _, rfl⟩ | ⟨g, _, _, _, h, _⟩
  · rfl
  · exact h
theorem AnsR.ans {w : World} {A : Option Addr} {n c : Nat} {l : List TP.An} (h : AnsR w A n c l) : Ans w A n l := by
  refine ⟨h.len, fun hn => ?_⟩
  rcases h with ⟨_, rfl, _, rfl⟩ | ⟨g, e, hg, _, _, hx⟩
  · omega
  · exact ⟨g, e, hg, hx⟩
theorem AnsR.keep {w w' : World} {A : Option Addr} {n c : Nat} {l : List TP.An} (h : AnsR w A n c l) (hb : Below w.heap.size w w') : AnsR w' A n c l := by
  rcases h with h | ⟨g, e, hg, hn, hl, hx⟩
  · exact .inl h
  · exact .inr ⟨g, e, Nat.lt_of_lt_of_le hg hb.size, hn, hl, fun j x hj => (hx j x hj).keep hg hb⟩
theorem TP.put_pos : ∀ (l : List TP.An) (a : TP.An), 0 < (TP.putA l a).length
  | [], a => by simp [TP.putA]
  | x :: l, a => by
    unfold TP.putA
    split
    · simp
    · split <;> simp
theorem put_any {A : Option Addr} {n c : Nat} (a : TP.An) {l : List TP.An} (w : World) (h : AnsR w A n c l) (bn : n ≤ 100000) :
    Calls Try.prog 44 #[.slice A n c, anV a] w fun e w' => (∃ B m c', e = .returned (.slice B m c') ∧ AnsR w' B m c' (TP.putA l a)) ∧ Below w.heap.size w w' := by
  have fin : ∀ {w' : World} {B : Option Addr} {m c' : Nat}, m ≤ c' → Ans w' B m (TP.putA l a) → AnsR w' B m c' (TP.putA l a) := fun {w' B m c'} hm ha => by
    obtain ⟨g, e, hg, hx⟩ := ha.2 (by rw [← ha.1]; exact TP.put_pos l a)
    exact .inr ⟨g, e, hg, hm, ha.1, hx⟩
  rcases h with ⟨rfl, rfl, rfl, rfl⟩ | ⟨g, rfl, hg, hn, hl, hx⟩
  · exact (put_nil a w).mono fun e w' ⟨⟨B, m, c', h1, h2, h3⟩, h4⟩ => ⟨⟨B, m, c', h1, fin h2 h3⟩, h4⟩
  · exact (put_some g n c a w hg hl hx hn bn).mono fun e w' ⟨⟨B, m, c', h1, h2, h3⟩, h4⟩ => ⟨⟨B, m, c', h1, fin h2 h3⟩, h4⟩
end Go.Proofs.Ytiokiecnglmbnaa
