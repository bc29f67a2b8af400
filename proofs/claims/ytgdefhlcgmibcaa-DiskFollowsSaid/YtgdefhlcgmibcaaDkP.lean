/-
  What several laws of disks use. No condition.
-/
import Derived.Test.YtgdefhlcgmibcaaDkO
namespace Go.Proofs.Ytgdefhlcgmibcaa
open Go Go.RowKit Go.Proofs

/-- The built disk, at what a law is told. -/
theorem built_got {a0 : Int} {a1 : Option Addr} {len1 : Nat} {z1 : List Int} (cap1 : Nat) (w : World) (w0 : (Lit.int .i64 a0).wf = true) (w1 : Row .i64 w a1 len1 cap1 z1) :
    ∃ d, Hid (Calls Try.prog 22 #[.int .i64 a0, .slice a1 len1 cap1] w fun e w' => (∃ y, e = .returned y ∧ DkAt w.heap.size w' y d) ∧ Below w.heap.size w w') ∧ DK.Ok d := by
  have hc : I64 a0 := by have := bounds_i64 w0; unfold I64; omega
  obtain ⟨hz, _, _, hwf⟩ := w1.ints
  exact ⟨_, Lib.hid (built_any a0 w hc hz (i64_of hwf)), DK.ok_built _ _⟩
theorem same_true {lo lo' : Nat} {x y : Value} {d : DK.Dk} (w : World) (hx : DkAt lo w x d) (hy : DkAt lo' w y d) (hd : DK.Ok d) : Calls Try.prog 17 #[x, y] w fun r w' => r = .returned (.bool true) ∧ Below w.heap.size w w' := by
  have := refSame_any w hx hy (by have := hd.size; omega) (by have := hd.pend; omega)
  rwa [decide_eq_true ⟨rfl, rfl⟩] at this
theorem resize_len {lo : Nat} {x : Value} {d : DK.Dk} (hn : d.cells.length ≤ 16) (w : World) (h : DkAt lo w x d) (hd : DK.Ok d) : Calls Try.prog 26 #[x, .int .i64 (d.cells.length : Int)] w fun e w' => (∃ y, e = .returned y ∧ DkAt w.heap.size w' y (DK.sync d)) ∧ Below w.heap.size w w' := by
  have := resize_any d.cells.length hn w h (by omega) (by have := hd.pend; omega)
  rwa [DK.resize_same] at this
theorem view_sp {lo : Nat} {x : Value} {d : DK.Dk} (w : World) (h : DkAt lo w x d) (hd : DK.Ok d) : Calls Try.prog 19 #[x] w fun e w' => (∃ y, e = .returned y ∧ (RgX.Sp.ints 0 (DK.view d) (DK.view d).length).p w' y) ∧ Below w.heap.size w w' :=
  (view_any w h (by have := hd.size; omega) (by have := hd.pend; omega)).mono fun _ _ ⟨⟨g, e, hl, hg⟩, hb⟩ => ⟨⟨_, e, some ⟨g, 0, none⟩, d.cells.length, by rw [DK.view_len], Cls.of_block hg (Nat.zero_le _) rfl (by rw [DK.view_len]; have := hd.size; omega) |> fun h => by rw [DK.view_len] at h ⊢; exact h⟩, hb⟩
theorem dk_cells {lo n c m q : Nat} {A P : Option Addr} {w : World} {d : DK.Dk} (h : DkAt lo w (.agg #[.slice A n c, .slice P m q]) d) : Cls lo w A n c d.cells := by
  obtain ⟨A', n', c', P', m', q', e, h1, h2⟩ := h
  injection e with e
  injection e with e
  injection e with e1 e2
  injection e1 with ea eb ec
  subst ea
  subst eb
  subst ec
  exact h1
theorem dk_pend {lo n c m q : Nat} {A P : Option Addr} {w : World} {d : DK.Dk} (h : DkAt lo w (.agg #[.slice A n c, .slice P m q]) d) : Wrs lo w P m q d.pend := by
  obtain ⟨A', n', c', P', m', q', e, h1, h2⟩ := h
  injection e with e
  injection e with e
  injection e with e1 e2
  injection e2 with e2 _
  injection e2 with ea eb ec
  subst ea
  subst eb
  subst ec
  exact h2
theorem crash_same {lo lo' kn kc : Nat} {K : Option Addr} {bs : List Bool} {x : Value} {d : DK.Dk} (w : World) (h : DkAt lo w x (DK.sync d)) (hd : DK.Ok d) (hb : Bls lo' w K kn kc bs) (bk : kn ≤ 1000) : Calls Try.prog 25 #[x, .slice K kn kc] w fun e w' => (∃ y, e = .returned y ∧ DkAt w.heap.size w' y (DK.sync d)) ∧ Below w.heap.size w w' := by
  have := crash_any w h hb (by have := (DK.ok_sync hd).size; omega) (by have := (DK.ok_sync hd).pend; omega) bk
  rwa [DK.crash_sync] at this
theorem dk_cell {l : List Int} {n j : Nat} {x : Int} (hl : l.length = n) (hj : j < n) (hx : l[j]?.getD 0 = x) : (DK.intsC l).toArray[j]? = some (.int .i64 x) := by
  rw [List.getElem?_toArray]
  unfold DK.intsC
  rw [List.getElem?_map, List.getElem?_eq_getElem (by omega)]
  rw [List.getElem?_eq_getElem (by omega)] at hx
  rw [← hx]
  rfl
/-- A cell of a resized disk. -/
theorem resize_at {lo k j n c m q : Nat} {A P : Option Addr} {w : World} {d : DK.Dk} (h : DkAt lo w (.agg #[.slice A n c, .slice P m q]) (DK.resize d k)) (hj : j < k) : ∃ g off x, A = some ⟨g, off, none⟩ ∧ g < w.heap.size ∧ (if j < (DK.view d).length then (DK.view d)[j]?.getD 0 else 0) = x ∧ w.cell? ⟨g, off + j, none⟩ = some (.int .i64 x) := by
  obtain ⟨A', n', c', P', m', q', e, h1, h2⟩ := h
  injection e with e
  injection e with e
  injection e with e1 e2
  injection e1 with ea eb ec
  subst ea
  subst eb
  subst ec
  have hn : n = k := h1.len.symm.trans (DK.fit_len _ _)
  obtain ⟨g, off, x, eA, _, hg, hx, hc⟩ := h1.at_ (k := j) (by omega)
  refine ⟨g, off, x, eA, hg, ?_, hc⟩
  have hf := DK.fit_get (DK.view d) k j hj
  have hx' : (DK.fit (DK.view d) k)[j]? = some x := hx
  rw [hf] at hx'
  injection hx'
end Go.Proofs.Ytgdefhlcgmibcaa
