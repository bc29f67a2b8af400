/-
  The laws' encode: what wire.Out collects of a slice of values. Condition: the values are such as the laws make.
-/
import Derived.Test.YtcojbloflaeefaaWVal
namespace Go.Proofs.Ytcojbloflaeefaa
open Go Go.RowKit

/-- A slice of the laws' values. -/
def Vls (B : Nat) (w : World) (A : Option Addr) (n c : Nat) (xs : List V) : Prop :=
  xs.length = n ∧ n ≤ c ∧ c ≤ maxLen ∧ (0 < n → ∃ b off C, A = some ⟨b, off, none⟩ ∧ b < B ∧ w.heap[b]? = some (.cells C 28 (0, 0)) ∧
    ∀ i x, xs[i]? = some x → ∃ v, VAt B w x v ∧ ∀ j u, v.cells[j]? = some u → C[off + (i * 5 + j)]? = some u)
theorem Vls.below {B n c : Nat} {w w' : World} {A : Option Addr} {xs : List V} (h : Vls B w A n c xs) (hb : Below B w w') : Vls B w' A n c xs := by
  obtain ⟨h1, h2, h3, h4⟩ := h
  refine ⟨h1, h2, h3, fun hn => ?_⟩
  obtain ⟨b, off, C, e, hB, hC, hi⟩ := h4 hn
  exact ⟨b, off, C, e, hB, (hb.block b hB).trans hC, fun i x hx => by
    obtain ⟨v, hv, hj⟩ := hi i x hx
    exact ⟨v, hv.below hb, hj⟩⟩
theorem Vls.more {B B' n c : Nat} {w : World} {A : Option Addr} {xs : List V} (h : Vls B w A n c xs) (hB : B ≤ B') : Vls B' w A n c xs := by
  obtain ⟨h1, h2, h3, h4⟩ := h
  refine ⟨h1, h2, h3, fun hn => ?_⟩
  obtain ⟨b, off, C, e, hB2, hC, hi⟩ := h4 hn
  exact ⟨b, off, C, e, by omega, hC, fun i x hx => by
    obtain ⟨v, hv, hj⟩ := hi i x hx
    exact ⟨v, hv.more hB, hj⟩⟩
/-- The element i of a slice of values. -/
theorem Vls.at_ {B n c i : Nat} {w : World} {A : Option Addr} {xs : List V} (h : Vls B w A n c xs) (hi : i < n) :
    ∃ b off x c0 c1 c2 c3 c4, A = some ⟨b, off, none⟩ ∧ b < B ∧ xs[i]? = some x ∧ VAt B w x (.agg #[c0, c1, c2, c3, c4]) ∧
      w.cell? ⟨b, off + i * 5, none⟩ = some c0 ∧ w.cell? ⟨b, off + i * 5 + 1, none⟩ = some c1 ∧ w.cell? ⟨b, off + i * 5 + 2, none⟩ = some c2 ∧ w.cell? ⟨b, off + i * 5 + 3, none⟩ = some c3 ∧ w.cell? ⟨b, off + i * 5 + 4, none⟩ = some c4 := by
  obtain ⟨h1, h2, h3, h4⟩ := h
  obtain ⟨b, off, C, e, hB2, hC, hj⟩ := h4 (by omega)
  obtain ⟨v, hv, hcs⟩ := hj i xs[i] (List.getElem?_eq_getElem (by omega))
  obtain ⟨bA, bn, bc, lA, ln, lc, rfl, r1, r2⟩ := hv
  refine ⟨b, off, _, _, _, _, _, _, e, hB2, List.getElem?_eq_getElem (by omega), ⟨bA, bn, bc, lA, ln, lc, rfl, r1, r2⟩, ?_, ?_, ?_, ?_, ?_⟩
  all_goals
    rw [cell_of_row w b _ C _ (0, 0) hC]
  · exact hcs 0 _ rfl
  · exact hcs 1 _ rfl
  · exact hcs 2 _ rfl
  · exact hcs 3 _ rfl
  · exact hcs 4 _ rfl
theorem own_base {w : World} {base base' size n : Nat} {t : TypeId} {v : Value} {xs : List Value} (h : w.ownsRow base t size v n xs) (hb : base' ≤ base) : w.ownsRow base' t size v n xs := by
  obtain ⟨h1, h2⟩ := h
  refine ⟨h1, ?_⟩
  rcases h2 with h2 | ⟨g, cap, cur, hv, hg, r⟩
  · exact .inl h2
  · exact .inr ⟨g, cap, cur, hv, by omega, r⟩
theorem encVs_snoc (xs : List V) (k : Nat) (x : V) (h : xs[k]? = some x) : encVs (xs.take (k + 1)) = encVs (xs.take k) ++ encV x := by
  unfold encVs
  rw [List.take_add_one, h, List.flatMap_append]
  simp
theorem encV_len {x : V} (h : x.wf) : (encV x).length ≤ 10010 := by
  obtain ⟨_, _, _, _, h5, h6, _⟩ := h
  unfold encV
  have a := encU_len x.u
  have b := encU_len (zig x.n)
  have c := encU_len x.b.length
  have d := encU_len x.l.length
  have e := encI_le x.l
  split
  · omega
  · split
    · unfold encI; omega
    · split
      · unfold encB; rw [List.length_append]; omega
      · unfold encL; rw [List.length_append]; omega
theorem encVs_len (xs : List V) (h : ∀ x ∈ xs, x.wf) : (encVs xs).length ≤ 10010 * xs.length := by
  induction xs with
  | nil => simp [encVs]
  | cons x xs ih =>
    have h1 := encV_len (h x (by simp))
    have h2 := ih (fun y hy => h y (by simp [hy]))
    unfold encVs at *
    rw [List.flatMap_cons, List.length_append, List.length_cons]
    omega

set_option maxHeartbeats 1000000 in
theorem encode_any (A : Option Addr) (n c : Nat) (xs : List V) (w : World) (h : Vls w.heap.size w A n c xs) (hx : ∀ x ∈ xs, x.wf) (hn : n ≤ 40) :
    Calls Try.prog 22 #[.slice A n c] w (Mk 5 .u8 w (encVs xs)) := by
  have hO := OutAt.new w
  have hA := Below.alloc (Below.refl w.heap.size w) (Nat.le_refl _) (.cells #[.slice none 0 0] 32)
  have HX := Lib.hid hx
  have HL := Lib.hid h.1
  have hV := h
  clear h hx
  go_enter Try.func22, Try.ntmps22
  go_wp2
  go_loopw [4] (fun i wr => ∃ k : Nat, k ≤ n ∧ i = .int .i64 k ∧ OutAt w.heap.size wr w.heap.size (encVs (xs.take k)) ∧ Below w.heap.size w wr) (fun i _ => n - (intOf i).toNat)
  case atStart => exact ⟨0, Nat.zero_le _, rfl, hO, hA⟩
  case round =>
    obtain ⟨k, hk, rfl, hOr, hB⟩ := hrel
    clear hO hA
    by_cases hlt : k < n
    · obtain ⟨b, off, x, c0, c1, c2, c3, c4, rfl, hb, hxk, hvx, q0, q1, q2, q3, q4⟩ := (hV.below hB).at_ hlt
      have hmem : x ∈ xs := List.mem_of_getElem? hxk
      have hlen := encVs_len (xs.take k) (fun y hy => HX.out y (List.mem_of_mem_take hy))
      have htl : (xs.take k).length ≤ k := List.length_take_le _ _
      have HC := Lib.hid (write_any w.heap.size w.heap.size x _ _ wr hOr hvx (HX.out x hmem) (by omega))
      have HK := Lib.hid hxk
      clear hV hxk hmem hOr
      go_wp2_with fail
      refine HC.out.mono ?_
      rintro e w2 ⟨rfl, h2, hb2⟩
      go_wp2_with fail
      go_roundw
      case rel => exact ⟨k + 1, by omega, by go_num, by rw [encVs_snoc xs k x HK.out]; exact h2, hB.trans hb2⟩
      case measure => simp [intOf]; omega
    · obtain rfl : k = n := by omega
      have e : xs.take k = xs := List.take_of_length_le (by rw [HL.out]; omega)
      have hlen := encVs_len xs HX.out
      rw [HL.out] at hlen
      rw [e] at hOr
      have HC := Lib.hid (out_done _ _ _ wr hOr (by omega))
      clear e hV hOr hlen
      go_wp2_with fail
      refine HC.out.mono ?_
      rintro e w2 ⟨A', n', c', rfl, h1, h2, h3, h4⟩
      have H1 := Lib.hid h1
      clear h1
      go_wp2_with fail
      go_ret
      exact ⟨A', n', c', rfl, H1.out, h2, own_base h3 hB.size, hB.trans (h4.mono hB.size)⟩
end Go.Proofs.Ytcojbloflaeefaa
