/-
  The parser as pure functions: enough fuel is enough; what is left is shorter. Plain mathematics; no function of the program.
  The parser as pure functions: what enough fuel gives, more fuel gives too. Plain mathematics; no function of the program.
  The parser as pure functions: what is left is no longer than what was there. Plain mathematics; no function of the program.
  Sorting handlers by their numbers: whatever sorted row holds the same handlers, of distinct numbers, is the model's. Pure.
  Generated programs of the parser's reference, as pure functions of the numbers. Plain mathematics; no function of the program.
-/
import Derived.Test.YtlfpaemfhanpiaaGreatDoorK1

namespace Go.Proofs.YtlfpaemfhanpiaaGreatDoor.PS
open TY (Nd)
open LX (Tok)

/-- The kind of a token and its text. -/
def TkOk (t : Tok) : Prop :=
  ((t.kind = 1 ∧ t.text.length ≤ 10 ∧ ∃ c l, t.text = c :: l ∧ LX.isW c = true) ∨ (t.kind = 2 ∧ ∃ c l, t.text = c :: l ∧ LX.isW c = false ∧ LX.isD c = true) ∨ (t.kind = 3 ∧ t.text.length ≤ 2 ∧ ∃ c l, t.text = c :: l ∧ LX.isW c = false ∧ LX.isD c = false)) ∧ t.num ≤ 2147483647 ∧ t.text.length ≤ 1000000
/-- Tokens, the last of which is the end. -/
inductive Good : List Tok → Prop
  | fin (t : Tok) : t.kind = 0 → t.text = [] → t.num = 0 → Good [t]
  | cons (t : Tok) (u : List Tok) : TkOk t → Good u → Good (t :: u)
theorem Good.ne {ts : List Tok} (h : Good ts) : ∃ t u, ts = t :: u := by
  cases h with
  | fin t _ _ _ => exact ⟨t, [], rfl⟩
  | cons t u _ _ => exact ⟨t, u, rfl⟩
theorem Good.tail {t : Tok} {u : List Tok} (h : Good (t :: u)) (hk : t.text ≠ []) : Good u := by
  cases h with
  | fin _ _ h _ => exact absurd h hk
  | cons _ _ _ h => exact h
theorem Good.tail_k {t : Tok} {u : List Tok} (h : Good (t :: u)) (hk : t.kind ≠ 0) : Good u := by
  cases h with
  | fin _ h _ _ => exact absurd h hk
  | cons _ _ _ h => exact h
theorem Good.num {t : Tok} {u : List Tok} (h : Good (t :: u)) : t.num ≤ 2147483647 := by
  cases h with
  | fin _ _ _ h => omega
  | cons _ _ h _ => exact h.2.1
theorem Good.txt {t : Tok} {u : List Tok} (h : Good (t :: u)) : t.text.length ≤ 1000000 := by
  cases h with
  | fin _ _ h _ => rw [h]; exact Nat.zero_le _
  | cons _ _ h _ => exact h.2.2
theorem TkOk.ne {t : Tok} (h : TkOk t) : t.text ≠ [] := by
  rcases h.1 with ⟨_, _, _, _, e, _⟩ | ⟨_, _, _, e, _⟩ | ⟨_, _, _, _, e, _⟩ <;> rw [e] <;> exact List.cons_ne_nil _ _
theorem TkOk.kind {t : Tok} (h : TkOk t) : t.kind ≠ 0 := by
  rcases h.1 with ⟨e, _⟩ | ⟨e, _⟩ | ⟨e, _⟩ <;> omega

/-- The result is not for want of fuel; at most n tokens are left. -/
def Fine {α : Type} (n : Nat) : PR α → Prop
  | .ok _ r => Good r ∧ r.length ≤ n
  | .err _ _ => True
  | .out => False
theorem Fine.bind {α β : Type} {n k : Nat} {x : PR α} {f : α → List Tok → PR β} (h : Fine n x) (hf : ∀ a r, Good r → r.length ≤ n → Fine k (f a r)) : Fine k (x.bind f) := by
  cases x with
  | ok a r => exact hf a r h.1 h.2
  | err p e => trivial
  | out => exact h
theorem Fine.mono {α : Type} {n k : Nat} {x : PR α} (h : Fine n x) (hn : n ≤ k) : Fine k x := by
  cases x with
  | ok a r => exact ⟨h.1, Nat.le_trans h.2 hn⟩
  | err p e => trivial
  | out => exact h
theorem must_fine {s : Bs} (hs : s ≠ []) {ts : List Tok} (h : Good ts) : Fine (ts.length - 1) (must s ts) := by
  obtain ⟨t, u, rfl⟩ := h.ne
  simp only [must]
  split
  · rename_i e
    exact ⟨h.tail (by rw [e]; exact hs), by simp⟩
  · trivial
theorem numb_fine {k : Nat} {ts : List Tok} (h : Good ts) : Fine (ts.length - 1) (numb k ts) := by
  obtain ⟨t, u, rfl⟩ := h.ne
  simp only [numb]
  split
  · rename_i e
    split
    · trivial
    · exact ⟨h.tail_k (by omega), by simp⟩
  · trivial
theorem opn_fine {s : Bs} (hs : s ≠ []) {lv : Nat} {ts : List Tok} (h : Good ts) : Fine (ts.length - 1) (opn s lv ts) := by
  obtain ⟨t, u, rfl⟩ := h.ne
  simp only [opn]
  split
  · rename_i e
    split
    · trivial
    · exact ⟨h.tail (by rw [e]; exact hs), by simp⟩
  · trivial
def mu : Md → List Tok → Nat
  | .ex p, ts => 10 * ts.length + (9 - p)
  | .ch _ _, ts => 10 * ts.length + 9
def bd : Md → List Tok → Nat
  | .ex _, ts => ts.length - 1
  | .ch _ _, ts => ts.length
def okM : Md → Prop
  | .ex p => 1 ≤ p ∧ p ≤ 8
  | .ch p _ => p = 1 ∨ p = 2 ∨ p = 5 ∨ p = 6
instance : ∀ m, Decidable (okM m)
  | .ex p => inferInstanceAs (Decidable (1 ≤ p ∧ p ≤ 8))
  | .ch p _ => inferInstanceAs (Decidable (p = 1 ∨ p = 2 ∨ p = 5 ∨ p = 6))
theorem Good.len {ts : List Tok} (h : Good ts) : 1 ≤ ts.length := by
  obtain ⟨t, u, rfl⟩ := h.ne
  simp
theorem deeper_fine {g : Rec} {f : Nat} (H : ∀ m lv ts, okM m → mu m ts < f → Good ts → Fine (bd m ts) (g m lv ts)) {s : Bs} (hs : s ≠ []) {p : Nat} (hp : okM (.ex p)) {lv : Nat} {ts : List Tok} (h : Good ts) (hf : 10 * ts.length ≤ f) : Fine (ts.length - 2) (deeper s (.ex p) g lv ts) := by
  have hl := h.len
  refine (opn_fine hs h).bind fun _ u hu hul => (H _ _ _ hp ?_ hu).mono ?_
  · simp only [mu]; have := hp.1; omega
  · simp only [bd]; omega
theorem par_fine {g : Rec} {f : Nat} (H : ∀ m lv ts, okM m → mu m ts < f → Good ts → Fine (bd m ts) (g m lv ts)) {lv : Nat} {ts : List Tok} (h : Good ts) (hf : 10 * ts.length ≤ f) : Fine (ts.length - 1) (par g lv ts) := by
  refine (deeper_fine H (by decide) (by decide) h hf).bind fun x r hr hrl => (must_fine (by decide) hr).bind fun _ r hr2 h2 => ⟨hr2, by omega⟩
theorem isName_text {t : Tok} {u : List Tok} (h : Good (t :: u)) (hn : isName t = true) : Good u := by
  refine h.tail_k ?_
  simp only [isName, Bool.and_eq_true, decide_eq_true_eq] at hn
  omega
theorem isBi_text {t : Tok} {u : List Tok} (h : Good (t :: u)) (hn : isBi t.text = true) : Good u := by
  refine h.tail fun e => ?_
  rw [e] at hn
  exact absurd hn (by decide)
theorem step_fine {g : Rec} {f : Nat} (H : ∀ m lv ts, okM m → mu m ts < f → Good ts → Fine (bd m ts) (g m lv ts)) : ∀ m lv ts, okM m → mu m ts < f + 1 → Good ts → Fine (bd m ts) (step g m lv ts) := by
  intro m lv ts hm hmu h
  have hl := h.len
  cases m with
  | ch p l =>
    obtain ⟨t, u, rfl⟩ := h.ne
    simp only [mu, List.length_cons] at hmu
    simp only [step, chn]
    have hp8 : okM (.ex (p + 1)) := by simp only [okM] at hm ⊢; omega
    split
    · rename_i ht
      have hu := h.tail fun e => by
        rw [e] at ht
        simp only [okM] at hm
        rcases hm with rfl | rfl | rfl | rfl <;> exact absurd ht (by decide)
      refine (H _ _ _ hp8 ?_ hu).bind fun x r hr hrl => (H (.ch p (nBin t.text l x)) _ _ (show okM (.ch p l) from hm) ?_ hr).mono ?_
      · simp only [mu]; omega
      · simp only [bd] at hrl; have := hu.len; simp only [mu]; omega
      · simp only [bd] at hrl ⊢; simp; omega
    · exact ⟨h, by simp [bd]⟩
  | ex p =>
    simp only [mu] at hmu
    have hp1 := hm.1
    have hp2 := hm.2
    have pre : ∀ s q, s ≠ [] → okM (.ex q) → p < q → Fine (ts.length - 1) (pref s p q g lv ts) := fun s q hs hq hpq => by
      obtain ⟨t, u, rfl⟩ := h.ne
      simp only [pref]
      split
      · exact (deeper_fine H hs hm h (by simp at hmu ⊢; omega)).bind fun x r hr hrl => ⟨hr, by simp at hrl ⊢; omega⟩
      · exact H _ _ _ hq (by simp only [mu]; omega) h
    simp only [step]
    split
    · rename_i e; subst e; exact pre _ _ (by decide) (by decide) (by decide)
    split
    · rename_i e
      subst e
      refine (H (.ex 5) _ _ (by decide) (by simp only [mu]; omega) h).bind fun l r hr hrl => ?_
      simp only [bd] at hrl
      obtain ⟨t, u, rfl⟩ := hr.ne
      simp only [cmp2]
      split
      · rename_i ht
        have hu := hr.tail fun e => by rw [e] at ht; exact absurd ht (by decide)
        simp only [List.length_cons] at hrl
        refine (H (.ex 5) _ _ (by decide) (by simp only [mu]; omega) hu).bind fun x r hr2 hrl2 => ⟨hr2, ?_⟩
        simp only [bd] at hrl2 ⊢
        omega
      · exact ⟨hr, hrl⟩
    split
    · rename_i e; subst e; exact pre _ _ (by decide) (by decide) (by decide)
    split
    · rename_i e
      subst e
      obtain ⟨t, u, rfl⟩ := h.ne
      simp only [List.length_cons] at hmu
      simp only [bd, List.length_cons, Nat.add_sub_cancel]
      simp only [prim]
      split
      · exact ⟨h.tail_k (by omega), Nat.le_refl _⟩
      split
      · rename_i e; exact ⟨h.tail (by rw [e]; decide), Nat.le_refl _⟩
      split
      · rename_i e; exact ⟨h.tail (by rw [e]; decide), Nat.le_refl _⟩
      split
      · rename_i e
        have hu := h.tail (by rw [e]; decide)
        exact (par_fine H hu (by omega)).bind fun x r hr hrl => ⟨hr, by omega⟩
      split
      · rename_i e; exact ⟨isBi_text h e, Nat.le_refl _⟩
      split
      · rename_i e; exact ⟨isName_text h e, Nat.le_refl _⟩
      · have := par_fine H h (lv := lv) (by simp only [List.length_cons]; omega)
        simpa using this
    · have hq : okM (.ex (p + 1)) := by simp only [okM]; omega
      have hc : ∀ l, okM (.ch p l) := fun l => by simp only [okM]; omega
      refine (H _ _ _ hq (by simp only [mu]; omega) h).bind fun l r hr hrl => (H _ _ _ (hc l) ?_ hr).mono ?_
      · simp only [bd] at hrl; simp only [mu]; omega
      · simp only [bd] at hrl ⊢; omega
theorem pe_fine : ∀ (f : Nat) m lv ts, okM m → mu m ts < f → Good ts → Fine (bd m ts) (pe f m lv ts)
  | 0, _, _, _, _, h, _ => absurd h (by omega)
  | f + 1, m, lv, ts, hm, hmu, h => step_fine (pe_fine f) m lv ts hm hmu h
theorem ex_fine {f lv : Nat} {ts : List Tok} (h : Good ts) (hf : 10 * ts.length + 8 < f) : Fine (ts.length - 1) (pe f (.ex 1) lv ts) := pe_fine f (.ex 1) lv ts (by decide) hf h

theorem semi_fine {x : Nd} {r : List Tok} (h : Good r) : Fine (r.length - 1) (semi x r) := (must_fine (by decide) h).bind fun _ _ hu hul => ⟨hu, hul⟩
def muS : Ms → List Tok → Nat
  | .bl, ts => 2 * ts.length + 1
  | .st, ts => 2 * ts.length
  | .sq _, ts => 2 * ts.length + 1
def bdS : Ms → List Tok → Nat
  | .sq _, ts => ts.length
  | _, ts => ts.length - 1
section
variable {E : Ex} {g : RecS} {f k lv : Nat} (HE : ∀ lv ts, Good ts → ts.length ≤ k → Fine (ts.length - 1) (E lv ts)) (H : ∀ m lv ts, muS m ts < f → Good ts → ts.length ≤ k → Fine (bdS m ts) (g m lv ts))
include HE H
theorem stm_fine {ts : List Tok} (h : Good ts) (hk : ts.length ≤ k) (hmu : 2 * ts.length < f + 1) : Fine (ts.length - 1) (stm E g lv ts) := by
  obtain ⟨t, u, rfl⟩ := h.ne
  simp only [List.length_cons] at hk hmu
  simp only [List.length_cons, Nat.add_sub_cancel]
  have big : ∀ n, u.length ≤ n → n ≤ u.length → n = u.length := fun n h1 h2 => by omega
  simp only [stm]
  split
  · rename_i e
    have hu := h.tail (by rw [e]; decide)
    unfold pIf
    refine (HE lv u hu (by omega)).bind fun c r hr hrl => (H .bl lv r (by simp only [muS]; have := hu.len; omega) hr (by omega)).bind fun y r2 hr2 hrl2 => ?_
    simp only [bdS] at hrl2
    obtain ⟨t2, v, rfl⟩ := hr2.ne
    simp only [List.length_cons] at hrl2
    have := hu.len
    simp only
    split
    · rename_i e2
      have hv := hr2.tail (by rw [e2]; decide)
      exact (H .bl lv v (by simp only [muS]; omega) hv (by omega)).bind fun n r3 hr3 hrl3 => ⟨hr3, by simp only [bdS] at hrl3; omega⟩
    · exact ⟨hr2, by simp; omega⟩
  split
  · rename_i e
    have hu := h.tail (by rw [e]; decide)
    have := hu.len
    unfold pWhile
    exact (HE lv u hu (by omega)).bind fun c r hr hrl => (H .bl lv r (by simp only [muS]; omega) hr (by omega)).bind fun y r2 hr2 hrl2 => ⟨hr2, by simp only [bdS] at hrl2; omega⟩
  split
  · rename_i e
    have hu := h.tail (by rw [e]; decide)
    unfold pSend
    exact (HE lv u hu (by omega)).bind fun _ r1 h1 l1 => (must_fine (by decide) h1).bind fun _ r2 h2 l2 => (numb_fine h2).bind fun _ r3 h3 l3 => (must_fine (by decide) h3).bind fun _ r4 h4 l4 => (HE lv r4 h4 (by omega)).bind fun _ r5 h5 l5 => (must_fine (by decide) h5).bind fun _ r6 h6 l6 => (HE lv r6 h6 (by omega)).bind fun _ r7 h7 l7 => (semi_fine h7).mono (by omega)
  split
  · rename_i e
    have hu := h.tail (by rw [e]; decide)
    exact (numb_fine hu).bind fun _ r1 h1 l1 => (semi_fine h1).mono (by omega)
  split
  · rename_i e
    have hu := h.tail (by rw [e]; decide)
    exact (numb_fine hu).bind fun _ r1 h1 l1 => (semi_fine h1).mono (by omega)
  split
  · rename_i e
    exact (semi_fine (h.tail (by rw [e]; decide))).mono (by omega)
  split
  · rename_i e
    exact (semi_fine (h.tail (by rw [e]; decide))).mono (by omega)
  split
  · rename_i e
    have hu := h.tail (by rw [e]; decide)
    unfold pReply
    exact (HE lv u hu (by omega)).bind fun _ r1 h1 l1 => (must_fine (by decide) h1).bind fun _ r2 h2 l2 => (HE lv r2 h2 (by omega)).bind fun _ r3 h3 l3 => (semi_fine h3).mono (by omega)
  split
  · rename_i e
    have hu := h.tail (by rw [e]; decide)
    unfold pFail
    exact (HE lv u hu (by omega)).bind fun _ r1 h1 l1 => (semi_fine h1).mono (by omega)
  · simp only [asgn]
    split
    · rename_i e
      have hu := isName_text h e
      exact (must_fine (by decide) hu).bind fun _ r1 h1 l1 => (HE lv r1 h1 (by omega)).bind fun _ r2 h2 l2 => (semi_fine h2).mono (by omega)
    · trivial
theorem stepS_fine : ∀ m lv ts, muS m ts < f + 1 → Good ts → ts.length ≤ k → Fine (bdS m ts) (stepS E g m lv ts) := by
  intro m lv ts hmu h hk
  have hl := h.len
  cases m with
  | st => exact stm_fine HE H h hk hmu
  | bl =>
    simp only [muS] at hmu
    refine (opn_fine (by decide) h).bind fun _ u hu hul => (H (.sq []) _ _ (by simp only [muS]; omega) hu (by omega)).bind fun n r hr hrl => (must_fine (by decide) hr).bind fun _ r2 hr2 hrl2 => ⟨hr2, ?_⟩
    simp only [bdS] at hrl ⊢
    omega
  | sq acc =>
    obtain ⟨t, u, rfl⟩ := h.ne
    simp only [stepS, seqn]
    split
    · exact ⟨h, Nat.le_refl _⟩
    · simp only [muS] at hmu
      refine (H .st lv _ (by simp only [muS]; omega) h hk).bind fun x r hr hrl => ?_
      simp only [bdS] at hrl
      exact (H _ _ _ (by simp only [muS]; omega) hr (by omega)).mono (by simp only [bdS]; omega)
end
theorem ps_fine {E : Ex} {k : Nat} (HE : ∀ lv ts, Good ts → ts.length ≤ k → Fine (ts.length - 1) (E lv ts)) : ∀ (f : Nat) m lv ts, muS m ts < f → Good ts → ts.length ≤ k → Fine (bdS m ts) (ps E f m lv ts)
  | 0, _, _, _, h, _, _ => absurd h (by omega)
  | f + 1, m, lv, ts, hmu, h, hk => stepS_fine HE (ps_fine HE f) m lv ts hmu h hk

theorem names_fine (other : List Bs) : ∀ (ts : List Tok) (own : List Bs), Good ts → Fine (ts.length - 1) (names other own ts)
  | [], _, h => absurd h.len (by simp)
  | [t], own, h => trivial
  | t :: c :: v, own, h => by
    simp only [names]
    split
    · rename_i hn
      have hu := isName_text h hn
      split
      · trivial
      split
      · trivial
      split
      · rename_i e
        exact (names_fine other v _ (hu.tail (by rw [e]; decide))).mono (by simp; omega)
      split
      · rename_i e
        exact ⟨hu.tail (by rw [e]; decide), by simp⟩
      · trivial
    · trivial
theorem decls_fine : ∀ (f : Nat) (d v : List Bs) (ts : List Tok), ts.length < f → Good ts → Fine ts.length (decls f d v ts)
  | 0, _, _, _, h, _ => absurd h (by omega)
  | f + 1, d, v, ts, hf, h => by
    obtain ⟨t, u, rfl⟩ := h.ne
    simp only [List.length_cons] at hf
    simp only [decls]
    split
    · rename_i e
      have hu := h.tail (by rw [e]; decide)
      exact (names_fine v u d hu).bind fun a r hr hrl => (decls_fine f a v r (by omega) hr).mono (by simp; omega)
    split
    · rename_i e
      have hu := h.tail (by rw [e]; decide)
      exact (names_fine d u v hu).bind fun a r hr hrl => (decls_fine f d a r (by omega) hr).mono (by simp; omega)
    · exact ⟨h, Nat.le_refl _⟩
theorem hnum_fine {ts : List Tok} (h : Good ts) : Fine (ts.length - 1) (hnum ts) := by
  obtain ⟨t, u, rfl⟩ := h.ne
  simp only [List.length_cons, Nat.add_sub_cancel]
  simp only [hnum]
  split
  · rename_i e; exact ⟨h.tail (by rw [e]; decide), Nat.le_refl _⟩
  split
  · rename_i e; exact ⟨h.tail (by rw [e]; decide), Nat.le_refl _⟩
  split
  · rename_i e; exact (numb_fine (h.tail (by rw [e]; decide))).bind fun _ r hr hrl => ⟨hr, by omega⟩
  split
  · rename_i e; exact (numb_fine (h.tail (by rw [e]; decide))).bind fun _ r hr hrl => ⟨hr, by omega⟩
  · trivial
theorem hands_fine {B : List Tok → PR Nd} {k : Nat} (HB : ∀ ts, Good ts → ts.length ≤ k → Fine (ts.length - 1) (B ts)) : ∀ (f : Nat) (on : List Hd) (ts : List Tok), ts.length < f → ts.length ≤ k → Good ts → Fine ts.length (hands B f on ts)
  | 0, _, _, h, _, _ => absurd h (by omega)
  | f + 1, on, ts, hf, hk, h => by
    obtain ⟨t, u, rfl⟩ := h.ne
    simp only [List.length_cons] at hf hk
    simp only [hands]
    split
    · rename_i e
      have hu := h.tail (by rw [e]; decide)
      have hh : Fine (u.length - 1) (hand B on u) := by
        obtain ⟨t2, v, rfl⟩ := hu.ne
        simp only [hand]
        refine (hnum_fine hu).bind fun n r hr hrl => ?_
        split
        · trivial
        · exact (HB r hr (by omega)).bind fun b r2 hr2 hrl2 => ⟨hr2, by omega⟩
      exact hh.bind fun a r hr hrl => (hands_fine HB f _ r (by omega) (by omega) hr).mono (by simp; omega)
    split
    · exact ⟨h, Nat.le_refl _⟩
    · trivial
theorem prog_fine {ts : List Tok} (h : Good ts) : Fine ts.length (prog (fuel ts) ts) := by
  refine (decls_fine _ _ _ _ (by unfold fuel; omega) h).bind fun p r hr hrl => (hands_fine (k := ts.length) (fun us hus hul => ?_) _ _ _ (by unfold fuel; omega) hrl hr).bind fun on r2 hr2 hrl2 => ⟨hr2, by omega⟩
  exact ps_fine (k := ts.length) (fun lv vs hvs hvl => ex_fine hvs (by unfold fuel; omega)) _ .bl 0 us (by simp only [muS]; unfold fuel; omega) hus hul
/-- What the lexer gives. -/
theorem lexF_good : ∀ (f o : Nat) (L : List UInt8) (ts : List Tok), LX.lexF f o L = .ok ts → L.length < f → L.length ≤ 1000000 → Good ts
  | 0, _, _, _, _, h, _ => absurd h (by omega)
  | f + 1, o, L, ts, h, hf, hL => by
    rw [LX.lexF] at h
    have hsk := LX.skipS_len false L
    cases hs : LX.skip L with
    | nil =>
      rw [hs] at h
      injection h with h
      subst h
      exact .fin _ rfl rfl rfl
    | cons c t =>
      rw [hs] at h
      rw [show LX.skipS false L = c :: t from hs] at hsk
      simp only at h
      cases hr : LX.tok1 (c :: t) with
      | bad e => rw [hr] at h; cases h
      | good k n v =>
        rw [hr] at h
        simp only at h
        have h1 := LX.tok1_len hr
        cases hx : LX.lexF f (o + (L.length - (c :: t).length) + n) ((c :: t).drop n) with
        | err p e => rw [hx] at h; cases h
        | ok us =>
          rw [hx] at h
          injection h with h
          subst h
          refine .cons _ _ ?_ (lexF_good f _ _ _ hx (by rw [List.length_drop]; omega) (by rw [List.length_drop]; omega))
          have htx : ((c :: t).take n).length ≤ 1000000 := by rw [List.length_take]; omega
          obtain ⟨n', rfl⟩ : ∃ n', n = n' + 1 := ⟨n - 1, by omega⟩
          simp only [LX.tok1] at hr
          split at hr
          · rename_i hw
            split at hr
            · cases hr
            · rename_i hlen
              injection hr with e1 e2 e3
              subst e1 e3
              refine ⟨.inl ⟨rfl, ?_, c, _, rfl, hw⟩, Nat.zero_le _, htx⟩
              simp only [List.length_take]
              omega
          · rename_i hw
            split at hr
            · rename_i hd
              split at hr
              · cases hr
              · rename_i hv
                injection hr with e1 e2 e3
                subst e1 e3
                exact ⟨.inr (.inl ⟨rfl, c, _, rfl, by simpa using hw, hd⟩), by simp only; omega, htx⟩
            · rename_i hd
              split at hr
              · injection hr with e1 e2 e3
                subst e1 e3
                exact ⟨.inr (.inr ⟨rfl, by simp only [List.length_take]; omega, c, _, rfl, by simpa using hw, by simpa using hd⟩), Nat.zero_le _, htx⟩
              · split at hr
                · injection hr with e1 e2 e3
                  subst e1 e3
                  exact ⟨.inr (.inr ⟨rfl, by simp only [List.length_take]; omega, c, _, rfl, by simpa using hw, by simpa using hd⟩), Nat.zero_le _, htx⟩
                · cases hr
theorem lex_good {L : List UInt8} {ts : List Tok} (h : LX.lex L = .ok ts) (hL : L.length ≤ 1000000) : Good ts := lexF_good _ _ _ _ h (Nat.lt_succ_self _) hL
end Go.Proofs.YtlfpaemfhanpiaaGreatDoor.PS

namespace Go.Proofs.YtlfpaemfhanpiaaGreatDoor.PS
open TY (Nd)
open LX (Tok)

/-- y gives what x gives, if x gives something. -/
def LeR {α : Type} (x y : PR α) : Prop := x = .out ∨ y = x
theorem LeR.rfl {α : Type} {x : PR α} : LeR x x := .inr (Eq.refl x)
theorem LeR.bind {α β : Type} {x y : PR α} {f g : α → List Tok → PR β} (h : LeR x y) (hf : ∀ a r, LeR (f a r) (g a r)) : LeR (x.bind f) (y.bind g) := by
  rcases h with rfl | rfl
  · exact .inl (Eq.refl _)
  · cases y with
    | ok a r => exact hf a r
    | err p e => exact .rfl
    | out => exact .rfl
theorem LeR.ok {α : Type} {x y : PR α} (h : LeR x y) {a : α} {r : List Tok} (hx : x = .ok a r) : y = .ok a r := by
  rcases h with rfl | rfl
  · cases hx
  · exact hx
section
variable {g g' : Rec} (H : ∀ m lv ts, LeR (g m lv ts) (g' m lv ts))
include H
theorem deeper_le (s : Bs) (m : Md) (lv : Nat) (ts : List Tok) : LeR (deeper s m g lv ts) (deeper s m g' lv ts) := .bind .rfl fun _ _ => H _ _ _
theorem par_le (lv : Nat) (ts : List Tok) : LeR (par g lv ts) (par g' lv ts) := .bind (deeper_le H _ _ _ _) fun _ _ => .rfl
theorem step_le : ∀ m lv ts, LeR (step g m lv ts) (step g' m lv ts) := by
  intro m lv ts
  cases m with
  | ch p l =>
    simp only [step]
    cases ts with
    | nil => exact .rfl
    | cons t u =>
      simp only [chn]
      split
      · exact .bind (H _ _ _) fun _ _ => H _ _ _
      · exact .rfl
  | ex p =>
    have pre : ∀ s q r, LeR (pref s q r g lv ts) (pref s q r g' lv ts) := fun s q r => by
      cases ts with
      | nil => exact .rfl
      | cons t u =>
        simp only [pref]
        split
        · exact .bind (deeper_le H _ _ _ _) fun _ _ => .rfl
        · exact H _ _ _
    simp only [step]
    split
    · exact pre _ _ _
    split
    · refine .bind (H _ _ _) fun l r => ?_
      cases r with
      | nil => exact .rfl
      | cons t u =>
        simp only [cmp2]
        split
        · exact .bind (H _ _ _) fun _ _ => .rfl
        · exact .rfl
    split
    · exact pre _ _ _
    split
    · cases ts with
      | nil => exact .rfl
      | cons t u =>
        simp only [prim]
        repeat' split
        all_goals first
          | exact .rfl
          | exact .bind (par_le H _ _) fun _ _ => .rfl
          | exact par_le H _ _
    · exact .bind (H _ _ _) fun _ _ => H _ _ _
end
theorem pe_le1 : ∀ (f : Nat) m lv ts, LeR (pe f m lv ts) (pe (f + 1) m lv ts)
  | 0 => fun _ _ _ => .inl (Eq.refl _)
  | f + 1 => step_le (pe_le1 f)
theorem LeR.trans {α : Type} {x y z : PR α} (h : LeR x y) (k : LeR y z) : LeR x z := by
  rcases h with rfl | rfl
  · exact .inl (Eq.refl _)
  · exact k
theorem pe_le {f f' : Nat} (h : f ≤ f') (m : Md) (lv : Nat) (ts : List Tok) : LeR (pe f m lv ts) (pe f' m lv ts) := by
  induction h with
  | refl => exact .rfl
  | step _ ih => exact ih.trans (pe_le1 _ m lv ts)
section
variable {E E' : Ex} (HE : ∀ lv ts, LeR (E lv ts) (E' lv ts))
include HE
theorem asgn_le (lv : Nat) (ts : List Tok) : LeR (asgn E lv ts) (asgn E' lv ts) := by
  cases ts with
  | nil => exact .rfl
  | cons t u =>
    simp only [asgn]
    split
    · exact .bind .rfl fun _ _ => .bind (HE _ _) fun _ _ => .rfl
    · exact .rfl
variable {g g' : RecS} (H : ∀ m lv ts, LeR (g m lv ts) (g' m lv ts))
include H
theorem stm_le (lv : Nat) (ts : List Tok) : LeR (stm E g lv ts) (stm E' g' lv ts) := by
  cases ts with
  | nil => exact .rfl
  | cons t u =>
    simp only [stm]
    repeat' split
    all_goals first
      | exact .rfl
      | exact asgn_le HE _ _
      | exact .bind (HE _ _) fun _ _ => .rfl
      | exact .bind (HE _ _) fun _ _ => .bind .rfl fun _ _ => .bind (HE _ _) fun _ _ => .rfl
      | exact .bind (HE _ _) fun _ _ => .bind (H _ _ _) fun _ _ => .rfl
      | exact .bind (HE _ _) fun _ _ => .bind .rfl fun _ _ => .bind .rfl fun _ _ => .bind .rfl fun _ _ => .bind (HE _ _) fun _ _ => .bind .rfl fun _ _ => .bind (HE _ _) fun _ _ => .rfl
      | (refine .bind (HE _ _) fun _ _ => .bind (H _ _ _) fun _ r => ?_
         cases r with
         | nil => exact .rfl
         | cons t u =>
           dsimp only
           split
           · exact .bind (H _ _ _) fun _ _ => .rfl
           · exact .rfl)
theorem stepS_le : ∀ m lv ts, LeR (stepS E g m lv ts) (stepS E' g' m lv ts) := by
  intro m lv ts
  cases m with
  | bl => exact .bind .rfl fun _ _ => .bind (H _ _ _) fun _ _ => .rfl
  | sq acc =>
    cases ts with
    | nil => exact .rfl
    | cons t u =>
      simp only [stepS, seqn]
      split
      · exact .rfl
      · exact .bind (H _ _ _) fun _ _ => H _ _ _
  | st => exact stm_le HE H lv ts
end
theorem ps_le1 {E E' : Ex} (HE : ∀ lv ts, LeR (E lv ts) (E' lv ts)) : ∀ (f : Nat) m lv ts, LeR (ps E f m lv ts) (ps E' (f + 1) m lv ts)
  | 0 => fun _ _ _ => .inl (Eq.refl _)
  | f + 1 => stepS_le HE (ps_le1 HE f)
theorem ps_leE {E E' : Ex} (HE : ∀ lv ts, LeR (E lv ts) (E' lv ts)) : ∀ (f : Nat) m lv ts, LeR (ps E f m lv ts) (ps E' f m lv ts)
  | 0 => fun _ _ _ => .rfl
  | f + 1 => stepS_le HE (ps_leE HE f)
theorem ps_le {E E' : Ex} (HE : ∀ lv ts, LeR (E lv ts) (E' lv ts)) {f f' : Nat} (h : f ≤ f') (m : Ms) (lv : Nat) (ts : List Tok) : LeR (ps E f m lv ts) (ps E' f' m lv ts) := by
  induction h with
  | refl => exact ps_leE HE f m lv ts
  | step _ ih => exact ih.trans (ps_le1 (fun _ _ => .rfl) _ m lv ts)
theorem decls_le1 : ∀ (f : Nat) d v ts, LeR (decls f d v ts) (decls (f + 1) d v ts)
  | 0, _, _, _ => .inl (Eq.refl _)
  | f + 1, d, v, ts => by
    cases ts with
    | nil => exact .rfl
    | cons t u =>
      rw [decls, decls]
      repeat' split
      · exact .bind .rfl fun _ _ => decls_le1 f _ _ _
      · exact .bind .rfl fun _ _ => decls_le1 f _ _ _
      · exact .rfl
theorem decls_le {f f' : Nat} (h : f ≤ f') (d v : List Bs) (ts : List Tok) : LeR (decls f d v ts) (decls f' d v ts) := by
  induction h with
  | refl => exact .rfl
  | step _ ih => exact ih.trans (decls_le1 _ d v ts)
theorem hands_le1 {B B' : List Tok → PR Nd} (HB : ∀ ts, LeR (B ts) (B' ts)) : ∀ (f : Nat) on ts, LeR (hands B f on ts) (hands B' (f + 1) on ts)
  | 0, _, _ => .inl (Eq.refl _)
  | f + 1, on, ts => by
    cases ts with
    | nil => exact .rfl
    | cons t u =>
      rw [hands, hands]
      split
      · refine .bind ?_ fun _ _ => hands_le1 HB f _ _
        cases u with
        | nil => exact .rfl
        | cons t u =>
          simp only [hand]
          refine .bind .rfl fun n r => ?_
          split
          · exact .rfl
          · exact .bind (HB _) fun _ _ => .rfl
      · exact .rfl
theorem hands_leB {B B' : List Tok → PR Nd} (HB : ∀ ts, LeR (B ts) (B' ts)) : ∀ (f : Nat) on ts, LeR (hands B f on ts) (hands B' f on ts)
  | 0, _, _ => .rfl
  | f + 1, on, ts => by
    cases ts with
    | nil => exact .rfl
    | cons t u =>
      rw [hands, hands]
      split
      · refine .bind ?_ fun _ _ => hands_leB HB f _ _
        cases u with
        | nil => exact .rfl
        | cons t u =>
          simp only [hand]
          refine .bind .rfl fun n r => ?_
          split
          · exact .rfl
          · exact .bind (HB _) fun _ _ => .rfl
      · exact .rfl
theorem hands_le {B B' : List Tok → PR Nd} (HB : ∀ ts, LeR (B ts) (B' ts)) {f f' : Nat} (h : f ≤ f') (on : List Hd) (ts : List Tok) : LeR (hands B f on ts) (hands B' f' on ts) := by
  induction h with
  | refl => exact hands_leB HB f on ts
  | step _ ih => exact ih.trans (hands_le1 (fun _ => .rfl) _ on ts)
theorem prog_le {f f' : Nat} (h : f ≤ f') (ts : List Tok) : LeR (prog f ts) (prog f' ts) :=
  .bind (decls_le h _ _ _) fun _ _ => .bind (hands_le (fun ts => ps_le (fun lv ts => pe_le h (.ex 1) lv ts) h .bl 0 ts) h _ _) fun _ _ => .rfl
/-- What the program is with some fuel, it is with its own. -/
theorem prog_fuel {ts : List Tok} (hg : Good ts) {F : Nat} {R : PR Un} (h : prog F ts = R) (hR : R ≠ .out) : prog (fuel ts) ts = R := by
  have h1 := prog_le (Nat.le_max_left F (fuel ts)) ts
  have h2 := prog_le (Nat.le_max_right F (fuel ts)) ts
  have h3 := prog_fine hg
  rcases h1 with h1 | h1
  · exact absurd (h.symm.trans h1) hR
  · rcases h2 with h2 | h2
    · rw [h2] at h3; exact h3.elim
    · rw [← h2, h1, h]
end Go.Proofs.YtlfpaemfhanpiaaGreatDoor.PS

namespace Go.Proofs.YtlfpaemfhanpiaaGreatDoor.PS
open TY (Nd)
open LX (Tok)

/-- At most n tokens are left. -/
def Short {α : Type} (n : Nat) : PR α → Prop
  | .ok _ r => r.length ≤ n
  | _ => True
theorem Short.bind {α β : Type} {n k : Nat} {x : PR α} {f : α → List Tok → PR β} (h : Short n x) (hf : ∀ a r, r.length ≤ n → Short k (f a r)) : Short k (x.bind f) := by
  cases x with
  | ok a r => exact hf a r h
  | err p e => trivial
  | out => trivial
theorem Short.mono {α : Type} {n k : Nat} {x : PR α} (h : Short n x) (hn : n ≤ k) : Short k x := by
  cases x with
  | ok a r => exact Nat.le_trans h hn
  | err p e => trivial
  | out => trivial
theorem must_short (s : Bs) (ts : List Tok) : Short ts.length (must s ts) := by
  cases ts with
  | nil => trivial
  | cons t u => simp only [must]; split <;> simp [Short]
theorem numb_short (k : Nat) (ts : List Tok) : Short ts.length (numb k ts) := by
  cases ts with
  | nil => trivial
  | cons t u => simp only [numb]; repeat' split
                all_goals simp [Short]
theorem opn_short (s : Bs) (lv : Nat) (ts : List Tok) : Short ts.length (opn s lv ts) := by
  cases ts with
  | nil => trivial
  | cons t u => simp only [opn]; repeat' split
                all_goals simp [Short]
theorem par_short {g : Rec} (H : ∀ m lv ts, Short ts.length (g m lv ts)) (lv : Nat) (ts : List Tok) : Short ts.length (par g lv ts) :=
  Short.bind (n := ts.length) (Short.bind (opn_short yLP lv ts) fun _ u hu => (H _ _ u).mono hu) fun _ _ hr => Short.bind (n := ts.length) ((must_short yRP _).mono hr) fun _ _ hr => hr
theorem step_short {g : Rec} (H : ∀ m lv ts, Short ts.length (g m lv ts)) : ∀ m lv ts, Short ts.length (step g m lv ts) := by
  have pre : ∀ s p q lv ts, Short ts.length (pref s p q g lv ts) := fun s p q lv ts => by
    cases ts with
    | nil => trivial
    | cons t u =>
      simp only [pref]
      split
      · exact Short.bind (n := (t :: u).length) (Short.bind (opn_short s lv (t :: u)) fun _ u hu => (H _ _ u).mono hu) fun x r hr => hr
      · exact H _ _ _
  intro m lv ts
  cases m with
  | ch p l =>
    cases ts with
    | nil => trivial
    | cons t u =>
      simp only [step, chn]
      split
      · exact Short.bind (n := (t :: u).length) ((H _ _ u).mono (by simp)) fun x r hr => (H _ _ r).mono hr
      · exact Nat.le_refl _
  | ex p =>
    simp only [step]
    split
    · exact pre _ _ _ _ _
    split
    · refine Short.bind (H _ _ ts) fun l r hr => ?_
      cases r with
      | nil => trivial
      | cons t u =>
        simp only [cmp2]
        split
        · exact Short.bind (n := ts.length) ((H _ _ u).mono (by simp at hr; omega)) fun x r hr => hr
        · exact hr
    split
    · exact pre _ _ _ _ _
    split
    · cases ts with
      | nil => trivial
      | cons t u =>
        simp only [prim]
        split
        · simp [Short]
        split
        · simp [Short]
        split
        · simp [Short]
        split
        · exact Short.bind (n := (t :: u).length) ((par_short H lv u).mono (by simp)) fun x r hr => hr
        split
        · simp [Short]
        split
        · simp [Short]
        · exact par_short H lv (t :: u)
    · exact Short.bind (H _ _ ts) fun l r hr => (H _ _ r).mono hr
theorem pe_short : ∀ (f : Nat) m lv ts, Short ts.length (pe f m lv ts)
  | 0, _, _, _ => trivial
  | f + 1, m, lv, ts => step_short (pe_short f) m lv ts
theorem pe_len {f lv : Nat} {m : Md} {ts r : List Tok} {a : Nd} (h : pe f m lv ts = .ok a r) : r.length ≤ ts.length := by
  have := pe_short f m lv ts
  rw [h] at this
  exact this
theorem semi_short (x : Nd) (r : List Tok) : Short r.length (semi x r) := Short.bind (n := r.length) (must_short ySemi r) fun _ _ h => h
section
variable {E : Ex} {g : RecS} (HE : ∀ lv ts, Short ts.length (E lv ts)) (H : ∀ m lv ts, Short ts.length (g m lv ts))
include HE H
theorem stm_short (lv : Nat) (t : Tok) (u : List Tok) : Short u.length (stm E g lv (t :: u)) := by
  have sm : ∀ x r n, r.length ≤ n → Short n (semi x r) := fun x r n h => (semi_short x r).mono h
  have mu : ∀ s r n, r.length ≤ n → Short n (must s r) := fun s r n h => (must_short s r).mono h
  have ex : ∀ lv r n, r.length ≤ n → Short n (E lv r) := fun lv r n h => (HE lv r).mono h
  have nu : ∀ k r n, r.length ≤ n → Short n (numb k r) := fun k r n h => (numb_short k r).mono h
  have bl : ∀ m lv r n, r.length ≤ n → Short n (g m lv r) := fun m lv r n h => (H m lv r).mono h
  have l := Nat.le_refl u.length
  simp only [stm]
  split
  · exact Short.bind (ex _ _ _ l) fun _ _ l => Short.bind (bl _ _ _ _ l) fun _ r l => by
      cases r with
      | nil => trivial
      | cons t v =>
        simp only
        split
        · exact Short.bind (bl _ _ v u.length (by simp at l; omega)) fun _ _ l => l
        · exact l
  split
  · exact Short.bind (ex _ _ _ l) fun _ _ l => Short.bind (bl _ _ _ _ l) fun _ _ l => l
  split
  · exact Short.bind (ex _ _ _ l) fun _ _ l => Short.bind (mu _ _ _ l) fun _ _ l => Short.bind (nu _ _ _ l) fun _ _ l => Short.bind (mu _ _ _ l) fun _ _ l => Short.bind (ex _ _ _ l) fun _ _ l => Short.bind (mu _ _ _ l) fun _ _ l => Short.bind (ex _ _ _ l) fun _ _ l => sm _ _ _ l
  split
  · exact Short.bind (nu _ _ _ l) fun _ _ l => sm _ _ _ l
  split
  · exact Short.bind (nu _ _ _ l) fun _ _ l => sm _ _ _ l
  split
  · exact sm _ _ _ l
  split
  · exact sm _ _ _ l
  split
  · exact Short.bind (ex _ _ _ l) fun _ _ l => Short.bind (mu _ _ _ l) fun _ _ l => Short.bind (ex _ _ _ l) fun _ _ l => sm _ _ _ l
  split
  · exact Short.bind (ex _ _ _ l) fun _ _ l => sm _ _ _ l
  · simp only [asgn]
    split
    · exact Short.bind (mu _ _ _ l) fun _ _ l => Short.bind (ex _ _ _ l) fun _ _ l => sm _ _ _ l
    · trivial
theorem stepS_short : ∀ m lv ts, Short ts.length (stepS E g m lv ts) := by
  intro m lv ts
  cases m with
  | st =>
    cases ts with
    | nil => trivial
    | cons t u => exact (stm_short HE H lv t u).mono (by simp)
  | bl => exact Short.bind (n := ts.length) (opn_short yLB lv ts) fun _ _ l => Short.bind ((H _ _ _).mono l) fun _ _ l => Short.bind ((must_short yRB _).mono l) fun _ _ l => l
  | sq acc =>
    cases ts with
    | nil => trivial
    | cons t u =>
      simp only [stepS, seqn]
      split
      · exact Nat.le_refl _
      · exact Short.bind (H _ _ (t :: u)) fun _ _ l => (H _ _ _).mono l
end
theorem ps_short {E : Ex} (HE : ∀ lv ts, Short ts.length (E lv ts)) : ∀ (f : Nat) m lv ts, Short ts.length (ps E f m lv ts)
  | 0, _, _, _ => trivial
  | f + 1, m, lv, ts => stepS_short HE (ps_short HE f) m lv ts
theorem st_len {E : Ex} (HE : ∀ lv ts, Short ts.length (E lv ts)) {f lv : Nat} {t : Tok} {u r : List Tok} {a : Nd} (h : ps E f .st lv (t :: u) = .ok a r) : r.length ≤ u.length := by
  cases f with
  | zero => cases h
  | succ f =>
    have := stm_short HE (ps_short HE f) lv t u
    rw [show stm E (ps E f) lv (t :: u) = .ok a r from h] at this
    exact this
end Go.Proofs.YtlfpaemfhanpiaaGreatDoor.PS

namespace Go.Proofs.YtlfpaemfhanpiaaGreatDoor.PS

theorem ins_perm (h : Hd) : ∀ l : List Hd, (ins h l).Perm (h :: l)
  | [] => .refl _
  | x :: l => by
    simp only [ins]
    split
    · exact ((ins_perm h l).cons x).trans (.swap h x l)
    · exact .refl _
theorem foldl_perm : ∀ (l a : List Hd), (l.foldl (fun a h => ins h a) a).Perm (l ++ a)
  | [], a => .refl _
  | h :: l, a => by
    rw [List.foldl_cons]
    refine (foldl_perm l (ins h a)).trans ?_
    refine ((ins_perm h a).append_left l).trans ?_
    exact List.perm_middle
theorem sortH_perm (l : List Hd) : (sortH l).Perm l := by
  have := foldl_perm l []
  rwa [List.append_nil] at this
/-- In order. -/
def Ord (l : List Hd) : Prop := l.Pairwise fun a b => a.1 ≤ b.1
theorem ins_ord (h : Hd) : ∀ l : List Hd, Ord l → Ord (ins h l)
  | [], _ => List.pairwise_singleton _ _
  | x :: l, ho => by
    unfold Ord at ho ⊢
    rw [List.pairwise_cons] at ho
    simp only [ins]
    split
    · rename_i hx
      rw [List.pairwise_cons]
      refine ⟨fun y hy => ?_, ins_ord h l ho.2⟩
      have := (ins_perm h l).mem_iff.1 hy
      rcases List.mem_cons.1 this with rfl | hy
      · omega
      · exact ho.1 y hy
    · rename_i hx
      rw [List.pairwise_cons]
      refine ⟨fun y hy => ?_, List.pairwise_cons.2 ho⟩
      rcases List.mem_cons.1 hy with rfl | hy
      · omega
      · have := ho.1 y hy
        omega
theorem sortH_ord (l : List Hd) : Ord (sortH l) := by
  have key : ∀ (l a : List Hd), Ord a → Ord (l.foldl (fun a h => ins h a) a) := by
    intro l
    induction l with
    | nil => exact fun a h => h
    | cons h l ih => exact fun a ha => ih _ (ins_ord h a ha)
  exact key l [] List.Pairwise.nil
theorem ord_eq : ∀ (l l' : List Hd), l.Perm l' → Ord l → Ord l' → (l.map Prod.fst).Nodup → l = l'
  | [], l', hp, _, _, _ => (List.nil_perm.1 hp).symm
  | x :: l, [], hp, _, _, _ => absurd hp.symm (by simp)
  | x :: l, y :: l', hp, h1, h2, hn => by
    unfold Ord at h1 h2
    rw [List.pairwise_cons] at h1 h2
    rw [List.map_cons, List.nodup_cons] at hn
    have hxy : x = y := by
      have hx : x ∈ y :: l' := hp.mem_iff.1 (List.mem_cons_self)
      have hy : y ∈ x :: l := hp.mem_iff.2 (List.mem_cons_self)
      rcases List.mem_cons.1 hx with e | hx
      · exact e
      · rcases List.mem_cons.1 hy with e | hy
        · exact e.symm
        · have a1 := h2.1 x hx
          have a2 := h1.1 y hy
          exact absurd (List.mem_map.2 ⟨y, hy, by omega⟩) hn.1
    subst hxy
    rw [ord_eq l l' (List.Perm.cons_inv hp) h1.2 h2.2 hn.2]
/-- Whatever the library's sort leaves is the model's row. -/
theorem sortH_eq {l l' : List Hd} (hp : l.Perm l') (ho : Ord l') (hn : (l.map Prod.fst).Nodup) : l' = sortH l := by
  have hn' : (l'.map Prod.fst).Nodup := (hp.map Prod.fst).nodup_iff.1 hn
  exact ord_eq l' (sortH l) (hp.symm.trans (sortH_perm l).symm) ho (sortH_ord l) hn'
end Go.Proofs.YtlfpaemfhanpiaaGreatDoor.PS

namespace Go.Proofs.YtlfpaemfhanpiaaGreatDoor.PG
open TY (Nd eps pick arith compar logic bNames sMinus sNot)
open PS (Bs)

/-- The number that is drawn at place i, below m. -/
def nx (L : List Int) (i m : Nat) : Nat :=
  match L[i]? with
  | none => 0
  | some z => (((if z < 0 then -(z + 1) else z) % 1000000).toNat) % m
theorem nx_lt (L : List Int) (i : Nat) {m : Nat} (h : 0 < m) : nx L i m < m := by
  unfold nx
  split
  · exact h
  · exact Nat.mod_lt _ h
/-- The variables of generated programs. -/
def vars : List ByteArray := [⟨#[100]⟩, ⟨#[100, 100, 49]⟩, ⟨#[118]⟩, ⟨#[119, 50]⟩]
def ints : List Int := [0, 1, 2, 3, 7, 100, 2147483647, 30]
def pickI (n : Nat) : Int := ints[n]?.getD 0
/-- A tree, and the next place. -/
abbrev Gen := Nat → Nd × Nat
def one (sub : Gen) (k : Int) (s : ByteArray) (i : Nat) : Nd × Nat :=
  let a := sub i
  (.mk k 0 s [a.1], a.2)
def two (sub : Gen) (k : Int) (s : ByteArray) (i : Nat) : Nd × Nat :=
  let a := sub i
  let b := sub a.2
  (.mk k 0 s [a.1, b.1], b.2)
/-- Int, by the number n. -/
def gI (L : List Int) (sub : Gen) (n i : Nat) : Nd × Nat :=
  if n < 2 then (.mk 12 (pickI (nx L i 8)) eps [], i + 1)
  else if n < 4 then (.mk 14 0 (pick vars (nx L i 4)) [], i + 1)
  else if n < 6 then (.mk 15 0 (pick bNames (nx L i 9)) [], i + 1)
  else if n = 6 then one sub 16 eps i
  else if n = 7 then one sub 17 sMinus i
  else two sub 18 (pick arith (nx L i 4)) (i + 1)
def none0 : Gen := fun i => (default, i)
def genI (L : List Int) : Nat → Gen
  | 0 => fun i => gI L none0 (nx L i 12 % 6) (i + 1)
  | d + 1 => fun i => gI L (genI L d) (nx L i 12) (i + 1)
/-- Bool, by the number n. -/
def gB (L : List Int) (sub subI : Gen) (n i : Nat) : Nd × Nat :=
  if n = 0 then (.mk 13 (nx L i 2 : Int) eps [], i + 1)
  else if n = 5 then one sub 17 sNot i
  else if 5 < n then two sub 18 (pick logic (nx L i 2)) (i + 1)
  else two subI 18 (pick compar (nx L i 6)) (i + 1)
def genB (L : List Int) : Nat → Gen
  | 0 => fun i => gB L none0 (genI L 0) (nx L i 8 % 4) (i + 1)
  | d + 1 => fun i => gB L (genB L d) (genI L d) (nx L i 8) (i + 1)
/-- A list of trees, one after another. -/
def many (g : Gen) : Nat → Nat → List Nd × Nat
  | 0, i => ([], i)
  | m + 1, i => let a := g i; let r := many g m a.2; (a.1 :: r.1, r.2)
def blockG (L : List Int) (st : Gen) (most : Nat) (i : Nat) : Nd × Nat :=
  let r := many st (nx L i (most + 1)) (i + 1)
  (.mk 11 0 eps r.1, r.2)
def asg (L : List Int) (d i : Nat) : Nd × Nat :=
  let a := genI L d (i + 1)
  (.mk 1 0 (pick vars (nx L i 4)) [a.1], a.2)
/-- A statement, by the number n; sub builds the blocks of a deeper level. -/
def gS (L : List Int) (sub : Gen) (n i : Nat) : Nd × Nat :=
  if n < 3 then asg L 2 i
  else if n < 5 then
    let a := genI L 0 i
    let b := genI L 1 (a.2 + 1)
    let c := genI L 1 b.2
    (.mk 4 (nx L a.2 4 : Int) eps [a.1, b.1, c.1], c.2)
  else if n = 5 then (.mk 5 (nx L i 3 : Int) eps [], i + 1)
  else if n = 6 then (.mk 6 (nx L i 3 : Int) eps [], i + 1)
  else if n = 7 then (.mk 7 0 eps [], i)
  else if n = 8 then let a := genI L 0 i; let b := genI L 1 a.2; (.mk 8 0 eps [a.1, b.1], b.2)
  else if n = 9 then let a := genI L 1 i; (.mk 9 0 eps [a.1], a.2)
  else if n = 10 then (if 0 < nx L i 3 then asg L 1 (i + 1) else (.mk 10 0 eps [], i + 1))
  else if n = 11 then let c := genB L 1 i; let a := sub c.2; (.mk 3 0 eps [c.1, a.1], a.2)
  else
    let c := genB L 2 i
    let a := sub c.2
    if nx L a.2 2 = 1 then let b := sub (a.2 + 1); (.mk 2 0 eps [c.1, a.1, b.1], b.2)
    else (.mk 2 0 eps [c.1, a.1, .mk 11 0 eps []], a.2 + 1)
def noneB : Gen := fun i => (.mk 11 0 eps [], i)
def genS (L : List Int) : Nat → Gen
  | 0 => fun i => gS L noneB (nx L i 14 % 11) (i + 1)
  | d + 1 => fun i => gS L (blockG L (genS L d) 2) (nx L i 14) (i + 1)
/-- The handlers from number i on, of four. -/
def onG (L : List Int) : Nat → Nat → Nat → List PS.Hd
  | 0, _, _ => []
  | q + 1, h, p =>
    if 0 < nx L p 5 then
      let n := ([0, 1, 2 + nx L (p + 1) 8, 10 + nx L (p + 2) 30] : List Nat)[h]?.getD 0
      let b := blockG L (genS L 2) 3 (p + 3)
      (n, b.1) :: onG L q (h + 1) b.2
    else onG L q (h + 1) (p + 1)
/-- The program of these numbers. -/
def unit (zs : List Int) : PS.Un := ⟨[[100], [100, 100, 49]], [[118], [119, 50]], onG (zs.take 70) 4 0 0⟩
end Go.Proofs.YtlfpaemfhanpiaaGreatDoor.PG
