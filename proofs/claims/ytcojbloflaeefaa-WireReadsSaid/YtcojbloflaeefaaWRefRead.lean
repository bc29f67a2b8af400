/-
  The reference's Read reads a value of a kind. No condition beyond the reader's shape.
-/
import Derived.Test.YtcojbloflaeefaaWRefRd
import Derived.Test.YtcojbloflaeefaaWVal
namespace Go.Proofs.Ytcojbloflaeefaa
open Go Go.RowKit

/-- The world of 'read' ahead of its call, and what is known behind it. -/
theorem rread_at {B g : Nat} {w : World} {s : St} (k : Int) (h : RAt B w g s) :
    ∃ W, W = (w.alloc (.cells #[.int .i64 0, .int .u64 0, .int .i64 0, .slice none 0 0, .slice none 0 0] 28)).alloc (.cells #[.int .i64 k, .int .u64 0, .int .i64 0, .slice none 0 0, .slice none 0 0] 28) ∧
      RAt B W g s ∧ W.heap.size = w.heap.size + 2 ∧ Below w.heap.size w W ∧ ∀ w1, But g W w1 →
        w1.heap[w.heap.size]? = some (.cells #[.int .i64 0, .int .u64 0, .int .i64 0, .slice none 0 0, .slice none 0 0] 28 (0, 0)) ∧ w1.heap[w.heap.size + 1]? = some (.cells #[.int .i64 k, .int .u64 0, .int .i64 0, .slice none 0 0, .slice none 0 0] 28 (0, 0)) ∧ But g w w1 := by
  have b1 : Below w.heap.size w (w.alloc (.cells #[.int .i64 0, .int .u64 0, .int .i64 0, .slice none 0 0, .slice none 0 0] 28)) := (Below.refl _ _).alloc (Nat.le_refl _) _
  have b2 := b1.alloc b1.size (.cells #[.int .i64 k, .int .u64 0, .int .i64 0, .slice none 0 0, .slice none 0 0] 28)
  have hg := h.lt
  refine ⟨_, rfl, h.below b2, by simp, b2, fun w1 hb => ⟨?_, ?_, ?_⟩⟩
  · rw [hb.block _ (by simp; omega) (by simp; omega), Below.heap_alloc _ _ _ (by simp)]
    exact World.alloc_heap_new w _
  · rw [hb.block _ (by simp) (by simp; omega)]
    have := World.alloc_heap_new (w.alloc (.cells #[.int .i64 0, .int .u64 0, .int .i64 0, .slice none 0 0, .slice none 0 0] 28)) (.cells #[.int .i64 k, .int .u64 0, .int .i64 0, .slice none 0 0, .slice none 0 0] 28)
    simpa using this
  · exact ⟨hb.os.trans b2.os, hb.tape.trans b2.tape, hb.output.trans b2.output, Nat.le_trans b2.size hb.size, fun i hi hne => (hb.block i (Nat.lt_of_lt_of_le hi b2.size) hne).trans (b2.block i hi)⟩

theorem Apart.rAt {B g : Nat} {w w1 W' : World} {s : St} (h : Apart w.heap.size (w.heap.size + 1) w1 W') (hi : RAt B w1 g s) (hB : B ≤ w.heap.size) (hg : g < w.heap.size) : RAt B W' g s :=
  hi.keep (h.2.2.2.2 g (by omega) (by omega)) fun b _ hb _ => h.2.2.2.2 b (by omega) (by omega)

set_option maxHeartbeats 2000000 in
theorem r_read {B : Nat} (g : Nat) (s : St) (k most : Int) (w : World) (h : RAt B w g s) (hB : B ≤ w.heap.size) (hm : I64 most) (hk : k = 0 ∨ k = 1 ∨ k = 2 ∨ k = 3) :
    Calls Try.prog 18 #[.pointer (some ⟨g, 0, none⟩), .int .i64 k, .int .i64 most] w fun e w' => ∃ v, e = .returned v ∧ VAt w'.heap.size w' (rdV k most s).1 v ∧ RAt B w' g (rdV k most s).2 ∧ But g w w' := by
  rcases hk with rfl | rfl | rfl | rfl
  · obtain ⟨W, hW, hI, hsz, hbW, hnext⟩ := rread_at 0 h
    have HN := Lib.hid hnext
    have HC := Lib.hid (r_uint g s W hI)
    have HW := Lib.hid hW
    clear hnext hW hI
    go_enter Try.func18, Try.ntmps18
    go_wp2_with fail
    rw [← HW.out]
    refine HC.out.mono ?_
    rintro r w1 ⟨rfl, h1, hb⟩
    obtain ⟨n1, n2, n3⟩ := HN.out w1 hb
    obtain ⟨c0, c1, c2, c3, c4⟩ := five_c n1
    obtain ⟨d0, d1, d2, d3, d4⟩ := five_c n2
    obtain ⟨f0, f1, f2, f3, f4⟩ := five_f n1
    obtain ⟨e0, e1, e2, e3, e4⟩ := five_f n2
    go_wp2_with fail
    have hap := fun (i : Nat) (u0 u1 u2 u3 u4 u5 : Value) => ((((((Apart.refl w.heap.size (w.heap.size + 1) w1).two i u0).one 0 u1).one 1 u2).one 2 u3).one 3 u4).one 4 u5
    refine bodyPost_ret (v := .agg #[.int .i64 0, .int .u64 (rdU s).1, .int .i64 0, .slice none 0 0, .slice none 0 0]) (by simp [results, Try.results18, go_sem, *]) rfl ⟨_, rfl, ?_, (hap _ _ _ _ _ _ _).rAt h1 hB h.lt, (hap _ _ _ _ _ _ _).but n3⟩
    exact ⟨_, _, _, _, _, _, rfl, Lst.none_ _ _ _ _, Lst.none_ _ _ _ _⟩
  · obtain ⟨W, hW, hI, hsz, hbW, hnext⟩ := rread_at 1 h
    have HN := Lib.hid hnext
    have HC := Lib.hid (r_int g s W hI)
    have HW := Lib.hid hW
    clear hnext hW hI
    go_enter Try.func18, Try.ntmps18
    go_wp2_with fail
    rw [← HW.out]
    refine HC.out.mono ?_
    rintro r w1 ⟨rfl, h1, hb⟩
    obtain ⟨n1, n2, n3⟩ := HN.out w1 hb
    obtain ⟨c0, c1, c2, c3, c4⟩ := five_c n1
    obtain ⟨d0, d1, d2, d3, d4⟩ := five_c n2
    obtain ⟨f0, f1, f2, f3, f4⟩ := five_f n1
    obtain ⟨e0, e1, e2, e3, e4⟩ := five_f n2
    go_wp2_with fail
    have hap := fun (i : Nat) (u0 u1 u2 u3 u4 u5 : Value) => ((((((Apart.refl w.heap.size (w.heap.size + 1) w1).two i u0).one 0 u1).one 1 u2).one 2 u3).one 3 u4).one 4 u5
    refine bodyPost_ret (v := .agg #[.int .i64 1, .int .u64 0, .int .i64 (rdI s).1, .slice none 0 0, .slice none 0 0]) (by simp [results, Try.results18, go_sem, *]) rfl ⟨_, rfl, ?_, (hap _ _ _ _ _ _ _).rAt h1 hB h.lt, (hap _ _ _ _ _ _ _).but n3⟩
    exact ⟨_, _, _, _, _, _, rfl, Lst.none_ _ _ _ _, Lst.none_ _ _ _ _⟩
  · obtain ⟨W, hW, hI, hsz, hbW, hnext⟩ := rread_at 2 h
    have HN := Lib.hid hnext
    have HC := Lib.hid (r_bytes g s most W hI (by omega) hm)
    have HW := Lib.hid hW
    clear hnext hW hI
    go_enter Try.func18, Try.ntmps18
    go_wp2_with fail
    rw [← HW.out]
    refine HC.out.mono ?_
    rintro r w1 ⟨⟨A, n, c, rfl, hn, hL, hb⟩, h1⟩
    obtain ⟨n1, n2, n3⟩ := HN.out w1 hb
    obtain ⟨c0, c1, c2, c3, c4⟩ := five_c n1
    obtain ⟨d0, d1, d2, d3, d4⟩ := five_c n2
    obtain ⟨f0, f1, f2, f3, f4⟩ := five_f n1
    obtain ⟨e0, e1, e2, e3, e4⟩ := five_f n2
    clear hn
    go_wp2_with fail
    have hap := fun (i : Nat) (u0 u1 u2 u3 u4 u5 : Value) => ((((((Apart.refl w.heap.size (w.heap.size + 1) w1).two i u0).one 0 u1).one 1 u2).one 2 u3).one 3 u4).one 4 u5
    refine bodyPost_ret (v := .agg #[.int .i64 2, .int .u64 0, .int .i64 0, .slice A n c, .slice none 0 0]) (by simp [results, Try.results18, go_sem, *]) rfl ⟨_, rfl, ?_, (hap _ _ _ _ _ _ _).rAt h1 hB h.lt, (hap _ _ _ _ _ _ _).but n3⟩
    exact ⟨_, _, _, _, _, _, rfl, (hap _ _ _ _ _ _ _).lst hL n1 n2 (by decide), Lst.none_ _ _ _ _⟩
  · obtain ⟨W, hW, hI, hsz, hbW, hnext⟩ := rread_at 3 h
    have HN := Lib.hid hnext
    have HC := Lib.hid (r_ints g s most W hI (by omega) hm)
    have HW := Lib.hid hW
    clear hnext hW hI
    go_enter Try.func18, Try.ntmps18
    go_wp2_with fail
    rw [← HW.out]
    refine HC.out.mono ?_
    rintro r w1 ⟨⟨A, n, c, rfl, hn, hL, hb⟩, h1⟩
    obtain ⟨n1, n2, n3⟩ := HN.out w1 hb
    obtain ⟨c0, c1, c2, c3, c4⟩ := five_c n1
    obtain ⟨d0, d1, d2, d3, d4⟩ := five_c n2
    obtain ⟨f0, f1, f2, f3, f4⟩ := five_f n1
    obtain ⟨e0, e1, e2, e3, e4⟩ := five_f n2
    clear hn
    go_wp2_with fail
    have hap := fun (i : Nat) (u0 u1 u2 u3 u4 u5 : Value) => ((((((Apart.refl w.heap.size (w.heap.size + 1) w1).two i u0).one 0 u1).one 1 u2).one 2 u3).one 3 u4).one 4 u5
    refine bodyPost_ret (v := .agg #[.int .i64 3, .int .u64 0, .int .i64 0, .slice none 0 0, .slice A n c]) (by simp [results, Try.results18, go_sem, *]) rfl ⟨_, rfl, ?_, (hap _ _ _ _ _ _ _).rAt h1 hB h.lt, (hap _ _ _ _ _ _ _).but n3⟩
    exact ⟨_, _, _, _, _, _, rfl, Lst.none_ _ _ _ _, (hap _ _ _ _ _ _ _).lst hL n1 n2 (by decide)⟩
end Go.Proofs.Ytcojbloflaeefaa
