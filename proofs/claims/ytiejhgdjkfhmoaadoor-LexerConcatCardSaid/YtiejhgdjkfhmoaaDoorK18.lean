/-
  The lexer's answers moved; the answer for a newline b; bounds of places. Plain mathematics on lex.
-/
import Derived.Test.YtiejhgdjkfhmoaaDoorK10

namespace Go.Proofs.YtiejhgdjkfhmoaaDoor
open Go Go.RowKit Go.Proofs Go.Proofs.YtiejhgdjkfhmoaaDoor.LX

def mvT (o : Nat) (t : Tok) : Tok := ⟨t.kind, t.pos + o, t.text, t.num⟩
def mvO (o : Nat) : Out → Out
  | .err p c => .err (p + o) c
  | .ok ts => .ok (ts.map (mvT o))
theorem mvO_pre (o : Nat) (ts : List Tok) (x : Out) : (mvO o x).pre (ts.map (mvT o)) = mvO o (x.pre ts) := by
  cases x with
  | err p c => rfl
  | ok us => simp [mvO, Out.pre]
theorem lexF_mv (d : Nat) : ∀ (f o : Nat) (L : List UInt8), L.length < f → lexF f (o + d) L = mvO d (lexF f o L)
  | 0, _, _, h => absurd h (by omega)
  | f + 1, o, L, h => by
    have hl := skipS_len false L
    rw [lexF, lexF]
    cases hs : skip L with
    | nil => simp [mvO, mvT]; omega
    | cons c t =>
      rw [show skipS false L = c :: t from hs] at hl
      simp only
      cases hr : tok1 (c :: t) with
      | bad e => simp only [mvO]; rw [show o + d + (L.length - (c :: t).length) = o + (L.length - (c :: t).length) + d by omega]
      | good k n v =>
        simp only
        have h1 := tok1_len hr
        have ih := lexF_mv d f (o + (L.length - (c :: t).length) + n) ((c :: t).drop n) (by rw [List.length_drop]; omega)
        rw [show o + d + (L.length - (c :: t).length) + n = o + (L.length - (c :: t).length) + n + d by omega, ih, show o + d + (L.length - (c :: t).length) = o + (L.length - (c :: t).length) + d by omega]
        exact mvO_pre d [⟨k, o + (L.length - (c :: t).length), (c :: t).take n, v⟩] _
theorem outP_pre (ts : List Tok) (x : Out) : outP (x.pre ts) = outP x := by cases x <;> rfl
theorem outT_mem_pre (ts : List Tok) (x : Out) {t : Tok} (h : t ∈ outT (x.pre ts)) : t ∈ ts ∨ t ∈ outT x := by
  cases x with
  | err p c => cases h
  | ok us => exact List.mem_append.1 h
/-- Places lie within the source. -/
theorem lexF_pos : ∀ (f o : Nat) (L : List UInt8), outP (lexF f o L) ≤ o + L.length ∧ ∀ t ∈ outT (lexF f o L), t.pos ≤ o + L.length
  | 0, _, _ => ⟨Nat.zero_le _, fun t h => by cases h⟩
  | f + 1, o, L => by
    have hl := skipS_len false L
    rw [lexF]
    cases hs : skip L with
    | nil =>
      refine ⟨Nat.zero_le _, fun t h => ?_⟩
      simp only [outT, List.mem_singleton] at h
      rw [h]
      exact Nat.le_refl _
    | cons c u =>
      rw [show skipS false L = c :: u from hs] at hl
      simp only
      cases hr : tok1 (c :: u) with
      | bad e => exact ⟨by simp only [outP]; omega, fun t h => by cases h⟩
      | good k n v =>
        simp only
        have h1 := tok1_len hr
        obtain ⟨i1, i2⟩ := lexF_pos f (o + (L.length - (c :: u).length) + n) ((c :: u).drop n)
        rw [List.length_drop] at i1 i2
        refine ⟨by rw [outP_pre]; omega, fun t h => ?_⟩
        rcases outT_mem_pre _ _ h with h | h
        · rw [List.mem_singleton] at h
          rw [h]
          show o + (L.length - (c :: u).length) ≤ _
          omega
        · have := i2 t h
          omega
theorem lex_pos (s : ByteArray) : outP (lex (bsOf s)) ≤ s.size ∧ ∀ t ∈ outT (lex (bsOf s)), t.pos ≤ s.size := by
  have := lexF_pos ((bsOf s).length + 1) 0 (bsOf s)
  rw [Nat.zero_add, bs_len] at this
  unfold lex
  rw [bs_len]
  exact this
/-- The answer for a newline b. -/
theorem lex_cat (a b : ByteArray) : (∀ p e, lex (bsOf a) = .err p e → lex (bsOf (a ++ ⟨#[10]⟩ ++ b)) = .err p e) ∧
    ∀ xs, lex (bsOf a) = .ok xs → ∃ us, xs = us ++ [⟨0, a.size, [], 0⟩] ∧ lex (bsOf (a ++ ⟨#[10]⟩ ++ b)) = (mvO (a.size + 1) (lex (bsOf b))).pre us := by
  have hb : bsOf (a ++ ⟨#[10]⟩ ++ b) = bsOf a ++ 10 :: bsOf b := by
    show (a ++ ⟨#[10]⟩ ++ b).data.toList = _
    rw [ByteArray.data_append, ByteArray.data_append, Array.toList_append, Array.toList_append, List.append_assoc]
    rfl
  obtain ⟨h1, h2⟩ := lexF_concat (bsOf b) ((bsOf a).length + 1) ((bsOf a ++ 10 :: bsOf b).length + 1) 0 (bsOf a) (Nat.lt_succ_self _) (Nat.lt_succ_self _)
  rw [hb]
  refine ⟨h1, fun xs hx => ?_⟩
  obtain ⟨us, e1, e2⟩ := h2 xs hx
  have hla := bs_len a
  rw [Nat.zero_add, hla] at e1 e2
  refine ⟨us, e1, ?_⟩
  have hm := lexF_mv (a.size + 1) ((bsOf b).length + 1) 0 (bsOf b) (Nat.lt_succ_self _)
  rw [Nat.zero_add] at hm
  unfold lex
  rw [e2, hm]
end Go.Proofs.YtiejhgdjkfhmoaaDoor
