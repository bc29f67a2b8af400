/-
  Lemmas of the law WirePrefix that other laws use, too. No condition.
-/
import Derived.Test.YtcojbloflaeefaaWLives
import Derived.Test.YtcojbloflaeefaaWVals
import Derived.Test.YtcojbloflaeefaaWShort
namespace Go.Proofs.Ytcojbloflaeefaa.LawWirePrefix
open Go Go.RowKit

theorem Lst.cut {t : TypeId} {k : IntKind} {B n c : Nat} {w : World} {A : Option Addr} {zs : List Int} (h : Lst t k B w A n c zs) (a : Nat) (ha : a ≤ n) : Lst t k B w A a c (zs.take a) := by
  obtain ⟨h1, h2, h3, h4⟩ := h
  refine ⟨by rw [List.length_take]; omega, by omega, h3, ?_⟩
  rcases h4 with h4 | ⟨b, off, C, e, hb, hc, hj⟩
  · exact .inl h4
  · exact .inr ⟨b, off, C, e, hb, hc, fun j hja => by rw [hj j (by omega), List.getElem?_take_of_lt hja]⟩
theorem encV_good {x : V} (h : x.good) : (encV x).length ≤ 50 := by
  obtain ⟨_, _, h5, h6⟩ := h
  unfold encV
  have a := encU_len x.u
  have b := encU_len (zig x.n)
  have c := encU_len x.b.length
  have d := encU_len x.l.length
  have e := encI_le x.l
  split
  · omega
  · split
    · unfold encI; omega
    · split
      · unfold encB; rw [List.length_append]; omega
      · unfold encL; rw [List.length_append]; omega
theorem encVs_good (xs : List V) (h : ∀ x ∈ xs, x.good) : (encVs xs).length ≤ 50 * xs.length := by
  induction xs with
  | nil => simp [encVs]
  | cons x xs ih =>
    have h1 := encV_good (h x (by simp))
    have h2 := ih (fun y hy => h y (by simp [hy]))
    unfold encVs at *
    rw [List.flatMap_cons, List.length_append, List.length_cons]
    omega
theorem encV_b8 {x : V} (h : x.good) : ∀ y ∈ encV x, B8 y := by
  obtain ⟨⟨h1, h2, h3, h4, _⟩, _⟩ := h
  intro y hy
  unfold encV at hy
  split at hy
  · exact encU_b8 h1.1 y hy
  · split at hy
    · exact encU_b8 (zig_w h2).1 y hy
    · split at hy
      · unfold encB at hy
        rcases List.mem_append.1 hy with hy | hy
        · exact encU_b8 (by omega) y hy
        · exact h3 y hy
      · unfold encL at hy
        rcases List.mem_append.1 hy with hy | hy
        · exact encU_b8 (by omega) y hy
        · obtain ⟨z, hz, hy⟩ := List.mem_flatMap.1 hy
          exact encU_b8 (zig_w (h4 z hz)).1 y hy
theorem encVs_b8 (xs : List V) (h : ∀ x ∈ xs, x.good) : ∀ y ∈ encVs xs, B8 y := by
  intro y hy
  obtain ⟨x, hx, hy⟩ := List.mem_flatMap.1 hy
  exact encV_b8 (h x hx) y hy
/-- The world and the slice of values behind Vals. -/
theorem vals_vls (A : Option Addr) (n c : Nat) (zs : List Int) (w : World) (hI : Ints .i64 w.heap.size w A n zs) (hi : ∀ x ∈ zs, I64 x) (hn : n ≤ 9223372036854775807) :
    Calls Try.prog 6 #[.slice A n c] w fun e w' => ∃ A' n' c' xs, e = .returned (.slice A' n' c') ∧ n' ≤ 8 ∧ xs.length = n' ∧ (∀ x ∈ xs, V.good x) ∧ Vls w'.heap.size w' A' n' c' xs ∧ Below w.heap.size w w' :=
  (vals_any A n c zs w hI hi hn).mono fun _ _ ⟨A', n', c', xs, _, h1, h2, h3, h4, h5, h6, h7⟩ => ⟨A', n', c', xs, h1, h2, h3, h4, Vls.of_own h5 h6, h7⟩

theorem Vls.kind {B n c k : Nat} {w : World} {A : Option Addr} {xs : List V} (h : Vls B w A n c xs) (hk : k < n) : ∃ b off x, A = some ⟨b, off, none⟩ ∧ xs[k]? = some x ∧ w.cell? ⟨b, off + k * 5, none⟩ = some (.int .i64 x.kind) := by
  obtain ⟨b, off, x, c0, c1, c2, c3, c4, e, _, hx, ⟨_, _, _, _, _, _, ea, _⟩, q0, _⟩ := h.at_ hk
  injection ea with ea
  simp only [Array.mk.injEq, List.cons.injEq] at ea
  exact ⟨b, off, x, e, hx, by rw [q0, ea.1]⟩
/-- Another reader has read. -/
theorem InAt.other {B g g' : Nat} {w w' : World} {s s' : St} {B' : Nat} (h : InAt B w g s) (h' : InAt B' w g' s') (hb : But g' w w') (hne : g ≠ g') : InAt B w' g s := by
  obtain ⟨cs, hcs⟩ := h'.struct
  exact h.grown hb (fun e => hne (by injection e)) fun b e => .inr fun C hC => by
    injection e with e
    subst e
    exact heap_ne hcs hC (by decide) rfl

end Go.Proofs.Ytcojbloflaeefaa.LawWirePrefix
