/-
  The contracts of wire.In's small methods: Fail, Err, End, octet. No condition beyond the reader's shape.
-/
import Derived.Test.YtcojbloflaeefaaWDone
namespace Go.Proofs.Ytcojbloflaeefaa
open Go Go.RowKit

/-! ### A block of two cells -/
section
variable {w : World} {g : Nat} {a b : Value} {t : TypeId}
theorem two_c0 (h : w.heap[g]? = some (.cells #[a, b] t (0, 0))) : w.cell? ⟨g, 0, none⟩ = some a := cell_of_row w g 0 _ t (0, 0) h
theorem two_c1 (h : w.heap[g]? = some (.cells #[a, b] t (0, 0))) : w.cell? ⟨g, 1, none⟩ = some b := cell_of_row w g 1 _ t (0, 0) h
theorem two_f (h : w.heap[g]? = some (.cells #[a, b] t (0, 0))) (i : Nat) : w.frozen? ⟨g, i, none⟩ = false := by simp [World.frozen?, h]
theorem two_s0 (h : w.heap[g]? = some (.cells #[a, b] t (0, 0))) (u : Value) : (w.setCell ⟨g, 0, none⟩ u).heap[g]? = some (.cells #[u, b] t (0, 0)) := by
  simp [World.setCell, Array.getElem?_modify, h]
theorem two_s1 (h : w.heap[g]? = some (.cells #[a, b] t (0, 0))) (u : Value) : (w.setCell ⟨g, 1, none⟩ u).heap[g]? = some (.cells #[a, u] t (0, 0)) := by
  simp [World.setCell, Array.getElem?_modify, h]
end
theorem but_set (w : World) (g i : Nat) (u : Value) : But g w (w.setCell ⟨g, i, none⟩ u) :=
  ⟨rfl, rfl, rfl, by simp [World.setCell], fun k _ hne => Below.heap_setCell _ _ _ _ (by rintro rfl; exact hne rfl)⟩
theorem but_refl (w : World) (g : Nat) : But g w w := ⟨rfl, rfl, rfl, Nat.le_refl _, fun _ _ _ => rfl⟩
theorem but_trans {a b c : World} {g : Nat} (h : But g a b) (k : But g b c) : But g a c :=
  ⟨k.os.trans h.os, k.tape.trans h.tape, k.output.trans h.output, Nat.le_trans h.size k.size, fun i hi hne => (k.block i (Nat.lt_of_lt_of_le hi h.size) hne).trans (h.block i hi hne)⟩
theorem but_below {a b c : World} {g : Nat} (h : But g a b) (k : Below b.heap.size b c) : But g a c :=
  ⟨k.os.trans h.os, k.tape.trans h.tape, k.output.trans h.output, Nat.le_trans h.size k.size, fun i hi hne => (k.block i (Nat.lt_of_lt_of_le hi h.size)).trans (h.block i hi hne)⟩
theorem Lst.set {t : TypeId} {k : IntKind} {B n c g : Nat} {w : World} {A : Option Addr} {zs : List Int} {cs : Array Value} {tg : TypeId} {f : Nat × Nat} (h : Lst t k B w A n c zs) (hg : w.heap[g]? = some (.cells cs tg f)) (hne : tg ≠ t) (i : Nat) (u : Value) : Lst t k B (w.setCell ⟨g, i, none⟩ u) A n c zs :=
  h.keep fun _ _ _ hC => Below.heap_setCell _ _ _ _ (fun e => heap_ne hg hC hne e.symm)

/-- What becomes of a reader that Fail is called on. -/
def St.fail (e : Int) : St → St
  | .ok _ => .bad e
  | .bad e0 => .bad e0

set_option maxHeartbeats 400000 in
theorem in_fail {B : Nat} (g : Nat) (s : St) (e : Int) (w : World) (h : InAt B w g s) (he : (e == 0) = false) (hi : I64 e) :
    Calls Try.prog 44 #[.pointer (some ⟨g, 0, none⟩), .int .i64 e] w fun r w' => r = .returned (.tuple #[]) ∧ InAt B w' g (s.fail e) ∧ But g w w' := by
  have HI := Lib.hid hi
  cases s with
  | ok bs =>
    obtain ⟨A, n, c, hg, hL, h8, hn⟩ := h
    have hc := two_c1 hg
    have hf := two_f hg 1
    have HE := Lib.hid he
    have H8 := Lib.hid h8
    clear he h8 hi
    go_enter Try.func44, Try.ntmps44
    go_wp2
    go_end0
    exact ⟨rfl, ⟨A, n, c, two_s1 hg _, HE.out, HI.out⟩, but_set _ _ _ _⟩
  | bad e0 =>
    obtain ⟨A, n, c, hg, h0, hi0⟩ := h
    have hc := two_c1 hg
    have HI0 := Lib.hid hi0
    clear he hi hi0
    go_enter Try.func44, Try.ntmps44
    go_wp2
    go_end0
    exact ⟨rfl, ⟨A, n, c, hg, h0, HI0.out⟩, but_refl _ _⟩
set_option maxHeartbeats 400000 in
/-- Fail(OK) does nothing. -/
theorem in_fail0 {B : Nat} (g : Nat) (bs : List Int) (w : World) (h : InAt B w g (.ok bs)) :
    Calls Try.prog 44 #[.pointer (some ⟨g, 0, none⟩), .int .i64 0] w fun r w' => r = .returned (.tuple #[]) ∧ InAt B w' g (.ok bs) ∧ But g w w' := by
  obtain ⟨A, n, c, hg, hL, h8, hn⟩ := h
  have hc := two_c1 hg
  have hf := two_f hg 1
  have H8 := Lib.hid h8
  clear h8
  go_enter Try.func44, Try.ntmps44
  go_wp2
  go_end0
  refine ⟨rfl, ⟨A, n, c, two_s1 hg _, (hL.set hg (by decide) _ _), H8.out, hn⟩, but_set _ _ _ _⟩

set_option maxHeartbeats 400000 in
theorem in_err {B : Nat} (g : Nat) (s : St) (w : World) (h : InAt B w g s) :
    Calls Try.prog 19 #[.pointer (some ⟨g, 0, none⟩)] w fun r w' => r = .returned (.int .i64 s.err) ∧ w = w' := by
  cases s with
  | ok bs =>
    obtain ⟨A, n, c, hg, hL, h8, hn⟩ := h
    have hc := two_c1 hg
    clear h8
    go_enter Try.func19, Try.ntmps19
    go_wp2
    go_ret
    exact ⟨rfl, rfl⟩
  | bad e0 =>
    obtain ⟨A, n, c, hg, h0, hi0⟩ := h
    have hc := two_c1 hg
    clear hi0
    go_enter Try.func19, Try.ntmps19
    go_wp2
    go_ret
    exact ⟨rfl, rfl⟩

theorem endE_ok {bs : List Int} : (St.ok bs).endE = if 0 < bs.length then 8 else 0 := by cases bs <;> simp [St.endE]
set_option maxHeartbeats 400000 in
theorem in_end {B : Nat} (g : Nat) (s : St) (w : World) (h : InAt B w g s) :
    Calls Try.prog 20 #[.pointer (some ⟨g, 0, none⟩)] w fun r w' => r = .returned (.int .i64 s.endE) ∧ w = w' := by
  cases s with
  | ok bs =>
    obtain ⟨A, n, c, hg, hL, h8, hn⟩ := h
    have hc0 := two_c0 hg
    have hc1 := two_c1 hg
    have HE := Lib.hid (endE_ok (bs := bs))
    have HL := Lib.hid hL.len
    clear h8 hL
    by_cases hn0 : 0 < n
    · go_enter Try.func20, Try.ntmps20
      go_wp2
      go_ret
      exact ⟨by rw [HE.out, if_pos (by rw [HL.out]; exact hn0)]; rfl, rfl⟩
    · go_enter Try.func20, Try.ntmps20
      go_wp2
      go_ret
      exact ⟨by rw [HE.out, if_neg (by rw [HL.out]; exact hn0)]; rfl, rfl⟩
  | bad e0 =>
    obtain ⟨A, n, c, hg, h0, hi0⟩ := h
    have hc := two_c1 hg
    have hc0 := two_c0 hg
    clear hi0
    go_enter Try.func20, Try.ntmps20
    go_wp2
    go_ret
    exact ⟨rfl, rfl⟩

/-- The slice behind the first element. -/
theorem Lst.tail {t : TypeId} {k : IntKind} {B n c b off : Nat} {w : World} {x : Int} {zs : List Int} (h : Lst t k B w (some ⟨b, off, none⟩) (n + 1) (c + 1) (x :: zs)) (off' : Nat) (ho : off' = off + 1 ∨ n = 0) : Lst t k B w (some ⟨b, off', none⟩) n c zs := by
  obtain ⟨h1, h2, h3, h4⟩ := h
  refine ⟨by simpa using h1, by omega, by omega, ?_⟩
  rcases h4 with ⟨h4, _⟩ | ⟨b', off0, C, e, hb, hc, hj⟩
  · cases h4
  · injection e with e
    injection e with e1 e2
    subst e1 e2
    refine .inr ⟨b, off', C, rfl, hb, hc, fun j hjn => ?_⟩
    rcases ho with rfl | rfl
    · have := hj (j + 1) (by omega)
      rw [List.getElem?_cons_succ] at this
      rw [← this]
      congr 1
      omega
    · omega
theorem Lst.some_ {t : TypeId} {k : IntKind} {B n c : Nat} {w : World} {A : Option Addr} {x : Int} {zs : List Int} (h : Lst t k B w A n c (x :: zs)) :
    ∃ b off m d, A = some ⟨b, off, none⟩ ∧ n = m + 1 ∧ c = d + 1 ∧ m ≤ d ∧ w.cell? ⟨b, off, none⟩ = some (.int k x) := by
  obtain ⟨h1, h2, h3, h4⟩ := h
  have hn : n = zs.length + 1 := by simpa using h1.symm
  obtain ⟨d, rfl⟩ : ∃ d, c = d + 1 := ⟨c - 1, by omega⟩
  rcases h4 with ⟨_, h4⟩ | ⟨b, off, C, e, hb, hc, hj⟩
  · omega
  · exact ⟨b, off, zs.length, d, e, hn, rfl, by omega, by rw [cell_of_row w b off C t (0, 0) hc]; exact hj 0 (by omega)⟩

set_option maxHeartbeats 400000 in
theorem in_octet {B : Nat} (g : Nat) (s : St) (w : World) (h : InAt B w g s) :
    Calls Try.prog 43 #[.pointer (some ⟨g, 0, none⟩)] w fun r w' => r = .returned (.int .u8 (rdO s).1) ∧ InAt B w' g (rdO s).2 ∧ But g w w' := by
  have h' := h
  cases s with
  | bad e0 =>
    obtain ⟨A, n, c, hg, h0, hi0⟩ := h
    have hc := two_c1 hg
    have hc0 := two_c0 hg
    have hF := in_fail g (.bad e0) 7 w h' (by decide) (by unfold I64; omega)
    have HF := Lib.hid hF
    clear hi0 hF
    have hne : (e0 != 0) = true := by rw [bne, h0]; rfl
    by_cases hn : n = 0
    · subst hn
      go_enter Try.func43, Try.ntmps43
      go_wp2_with fail
      refine HF.out.mono ?_
      rintro e w1 ⟨rfl, h1, hb⟩
      obtain ⟨A1, n1, c1, hg1, _, hi1⟩ := h1
      have hcc := two_c1 hg1
      have HI := Lib.hid hi1
      clear hc hc0 hi1
      go_wp2_with fail
      go_ret
      exact ⟨rfl, ⟨A1, n1, c1, hg1, h0, HI.out⟩, hb⟩
    · have hn2 : ((n : Int) == 0) = false := by simp; omega
      go_enter Try.func43, Try.ntmps43
      go_wp2_with fail
      go_ret
      exact ⟨rfl, h', but_refl _ _⟩
  | ok bs =>
    obtain ⟨A, n, c, hg, hL, h8, hn⟩ := h
    have hc := two_c1 hg
    have hc0 := two_c0 hg
    cases bs with
    | nil =>
      have hF := in_fail g (.ok []) 7 w h' (by decide) (by unfold I64; omega)
      have HF := Lib.hid hF
      obtain rfl : n = 0 := hL.len.symm
      clear hF h8 hL
      go_enter Try.func43, Try.ntmps43
      go_wp2_with fail
      refine HF.out.mono ?_
      rintro e w1 ⟨rfl, h1, hb⟩
      obtain ⟨A1, n1, c1, hg1, _, hi1⟩ := h1
      have hcc := two_c1 hg1
      have HI := Lib.hid hi1
      clear hc hc0 hi1
      go_wp2_with fail
      go_ret
      exact ⟨rfl, ⟨A1, n1, c1, hg1, by decide, HI.out⟩, hb⟩
    | cons x xs =>
      obtain ⟨b, off, m, d, rfl, rfl, rfl, hmd, hcx⟩ := hL.some_
      have hf := two_f hg 0
      have hn2 : (((m + 1 : Nat) : Int) == 0) = false := by simp; omega
      have H8 := Lib.hid h8
      clear h8
      by_cases hd : d = 0
      · subst hd
        obtain rfl : m = 0 := by omega
        go_enter Try.func43, Try.ntmps43
        go_wp2_with fail
        go_ret
        refine ⟨rfl, ⟨_, 0, 0, two_s0 hg _, ((hL.tail _ ?_).set hg (by decide) _ _), fun y hy => H8.out y (by simp [hy]), by omega⟩, but_set _ _ _ _⟩
        omega
      · go_enter Try.func43, Try.ntmps43
        go_wp2_with fail
        go_ret
        refine ⟨rfl, ⟨_, m, d, two_s0 hg _, ((hL.tail _ ?_).set hg (by decide) _ _), fun y hy => H8.out y (by simp [hy]), by omega⟩, but_set _ _ _ _⟩
        omega
end Go.Proofs.Ytcojbloflaeefaa
