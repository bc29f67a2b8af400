/-
  The contracts of slices.Clone of bytes, of Out.Done and of NewIn. Condition: the slice holds bytes.
-/
import Derived.Test.YtcojbloflaeefaaWOut
import Derived.Lib.SliceRun
namespace Go.Proofs.Ytcojbloflaeefaa
open Go Go.RowKit

set_option maxHeartbeats 1000000 in
theorem clone_any (B : Nat) (A : Option Addr) (n c : Nat) (zs : List Int) (w : World) (hz : Lst 5 .u8 B w A n c zs) (hn : n ≤ 1000000) :
    Calls Try.prog 27 #[.slice A n c] w (Mk 5 .u8 w zs) := by
  obtain ⟨i0, hi, hz0, hz1, hz2⟩ := info_parts info_byte
  rcases A with _ | ad
  · have hc : c = 0 := by rcases hz.2.2.2 with ⟨_, h⟩ | ⟨b, off, C, h, _⟩; exact h; cases h
    have hle := hz.le
    obtain rfl : n = 0 := by omega
    have H := Lib.hid (List.eq_nil_of_length_eq_zero hz.len)
    clear hz
    subst hc
    have he := run_eql_nil_slice (P := Try.prog) w 24 5 none 0 0 0 0 Try.underlying24
    go_enter Try.func27, Try.ntmps27
    go_wp2
    go_ret
    exact mk_none _ _ _ _ H.out
  · have hs := hz.slc
    clear hz
    have he := Lib.run_eql_slice_nil (P := Try.prog) w 24 5 (some ad) n c 0 0 Try.underlying24
    go_enter Try.func27, Try.ntmps27
    go_wp2_with (at_builtin
                 refine wpList_append_slc rfl _ _ 24 rfl w.heap.size 5 i0 _ 1 Try.underlying24 hi hz0 hz1 hz2 rfl _ _ _ rfl (World.ownsRow_made w #[] 0 (Nat.le_refl _) (by simp [maxLen]) (by simp)) .u8 _ _ _ _ rfl (hs.below ((Below.refl _ _).alloc (Nat.le_refl _) _)) (by simp only [maxLen]; omega) (by omega) (by simp) ?_
                 intro A' c' w2 hown' hgrow)
    go_ret
    simp only [Nat.zero_add, List.nil_append] at hown'
    show Mk 5 .u8 w zs (.returned (.slice A' n c')) w2
    exact mk_own hown' (((Below.refl _ _).alloc (Nat.le_refl _) _).grown hgrow (by simp) (fun k e => by
      have e2 : some w.heap.size = some k := e
      injection e2 with e2
      omega))

set_option maxHeartbeats 400000 in
theorem out_done (base g : Nat) (bs : List Int) (w : World) (h : OutAt base w g bs) (hl : bs.length ≤ 1000000) :
    Calls Try.prog 11 #[.pointer (some ⟨g, 0, none⟩)] w (Mk 5 .u8 w bs) := by
  obtain ⟨A, m, c, hv, hg, hk, hrow⟩ := h
  have hc := hv.cell
  have hm : m ≤ 1000000 := by omega
  have hL := Lst.of_own hrow
  clear hk
  go_enter Try.func11, Try.ntmps11
  go_wp2_with fail
  refine (clone_any _ _ _ _ bs _ hL hm).mono ?_
  rintro e w1 ⟨A', n', c', rfl, h1, h2, h3, h4⟩
  clear hL hc
  have H1 := Lib.hid h1
  clear h1
  go_wp2_with fail
  go_ret
  exact ⟨A', n', c', rfl, H1.out, h2, h3, h4⟩

/-- The In at block g: its unread bytes, or the error that it has recorded. -/
def InAt (B : Nat) (w : World) (g : Nat) : St → Prop
  | .ok bs => ∃ A n c, w.heap[g]? = some (.cells #[.slice A n c, .int .i64 0] 65 (0, 0)) ∧ Lst 5 .u8 B w A n c bs ∧ (∀ x ∈ bs, B8 x) ∧ n ≤ 1000000
  | .bad e => ∃ A n c, w.heap[g]? = some (.cells #[.slice A n c, .int .i64 e] 65 (0, 0)) ∧ (e == 0) = false ∧ I64 e

/-- No other block than g has turned. -/
abbrev But (g : Nat) (w w' : World) : Prop := w.grownBy w' (some g)
theorem heap_ne {w : World} {g b : Nat} {cs C : Array Value} {t t' : TypeId} {f f' : Nat × Nat} (h : w.heap[g]? = some (.cells cs t f)) (h' : w.heap[b]? = some (.cells C t' f')) (hne : t ≠ t') : g ≠ b := by
  rintro rfl
  rw [h] at h'
  injection h' with h'
  injection h' with _ ht
  exact hne ht

theorem InAt.lt {B g : Nat} {w : World} {s : St} (h : InAt B w g s) : g < w.heap.size := by
  cases s with
  | ok bs => obtain ⟨A, n, c, hg, _⟩ := h; exact heap_lt hg
  | bad e => obtain ⟨A, n, c, hg, _⟩ := h; exact heap_lt hg
theorem InAt.keep {B g : Nat} {w w' : World} {s : St} (h : InAt B w g s) (hg : w'.heap[g]? = w.heap[g]?) (hk : ∀ b C, b < B → w.heap[b]? = some (.cells C 5 (0, 0)) → w'.heap[b]? = w.heap[b]?) : InAt B w' g s := by
  cases s with
  | ok bs => obtain ⟨A, n, c, h1, h2, h3, h4⟩ := h; exact ⟨A, n, c, hg.trans h1, h2.keep hk, h3, h4⟩
  | bad e => obtain ⟨A, n, c, h1, h2, h3⟩ := h; exact ⟨A, n, c, hg.trans h1, h2, h3⟩
theorem InAt.below {B g : Nat} {w w' : World} {s : St} (h : InAt B w g s) (hb : Below w.heap.size w w') : InAt B w' g s :=
  h.keep (hb.block g h.lt) fun b _ _ hC => hb.block b (heap_lt hC)
/-- Another block has turned that holds no bytes, or lies from B on. -/
theorem InAt.grown {B g : Nat} {w w' : World} {s : St} {row : Option Nat} (h : InAt B w g s) (hg : w.grownBy w' row) (hne : some g ≠ row) (hr : ∀ b, row = some b → B ≤ b ∨ ∀ C, w.heap[b]? ≠ some (.cells C 5 (0, 0))) : InAt B w' g s :=
  h.keep (hg.block g h.lt hne) fun b C hb hC => hg.block b (heap_lt hC) fun e => by
    rcases hr b e.symm with h1 | h1
    · omega
    · exact h1 C hC
theorem InAt.b8 {B g : Nat} {w : World} {bs : List Int} (h : InAt B w g (.ok bs)) : ∀ x ∈ bs, B8 x := by
  obtain ⟨_, _, _, _, _, h8, _⟩ := h
  exact h8
theorem InAt.short {B g : Nat} {w : World} {bs : List Int} (h : InAt B w g (.ok bs)) : bs.length ≤ 1000000 := by
  obtain ⟨_, n, _, _, hL, _, hn⟩ := h
  rw [hL.len]
  exact hn

set_option maxHeartbeats 400000 in
theorem newin_any (A : Option Addr) (n c : Nat) (zs : List Int) (w : World) (B : Nat) (hz : Lst 5 .u8 B w A n c zs) (hn : n ≤ 1000000) (h8 : ∀ x ∈ zs, B8 x) :
    Calls Try.prog 15 #[.slice A n c] w fun e w' => ∃ g, e = .returned (.pointer (some ⟨g, 0, none⟩)) ∧ w.heap.size ≤ g ∧ InAt w'.heap.size w' g (.ok zs) ∧ Below w.heap.size w w' := by
  go_enter Try.func15, Try.ntmps15
  go_wp2_with fail
  refine (clone_any _ _ _ _ zs _ hz hn).mono ?_
  rintro e w1 ⟨A', n', c', rfl, h1, h2, h3, h4⟩
  have hn' : n' ≤ 1000000 := by rw [← h1, hz.len]; exact hn
  clear h1 hz
  have H8 := Lib.hid h8
  clear h8
  go_wp2_with fail
  go_ret
  have hs := h4.size
  refine ⟨w1.heap.size, rfl, hs, ⟨A', n', c', ?_, (h2.below ((Below.refl _ _).alloc (Nat.le_refl _) _)).more (by simp), H8.out, hn'⟩, h4.alloc hs _⟩
  exact World.alloc_heap_new w1 _
end Go.Proofs.Ytcojbloflaeefaa
