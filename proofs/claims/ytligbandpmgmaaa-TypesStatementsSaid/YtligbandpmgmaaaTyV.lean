/-
  Generated programs; Check by the reference; renaming, declaring, substitution. Plain mathematics; no function of the program.
-/
import Derived.Test.YtligbandpmgmaaaTyU
namespace Go.Proofs.Ytligbandpmgmaaa.TY

/-! ### Check -/
/-- Check by the reference. -/
def chkR (u : Un) : Int := if u.on.all fun h => wellR h.2 && (names h.2 []).all fun s => inL u.vars s then 0 else 11
theorem all_congr_mem {α : Type} {p q : α → Bool} : ∀ {l : List α}, (∀ x ∈ l, p x = q x) → l.all p = l.all q
  | [], _ => rfl
  | x :: t, h => by
    rw [List.all_cons, List.all_cons, h x (by simp), all_congr_mem fun y hy => h y (List.mem_cons_of_mem _ hy)]
theorem names_undec (t : Nd) (l : List ByteArray) : ((names t []).all fun s => inL l s) = !undec l t := by
  rw [undec_occ, List.not_any_eq_all_not, Bool.eq_iff_iff, List.all_eq_true, List.all_eq_true]
  constructor
  · intro h x hx
    rw [Bool.not_not]
    exact h x ((names_mem t []).2 (.inr hx))
  · intro h x hx
    rcases (names_mem t []).1 hx with h1 | h1
    · cases h1
    · have := h x h1
      rwa [Bool.not_not] at this
theorem chk_ref {u : Un} (h : ∀ x ∈ u.on, FitS x.2) : chk u = chkR u := by
  unfold chk chkR
  rw [all_congr_mem (q := fun h => wellR h.2 && (names h.2 []).all fun s => inL u.vars s) fun x hx => by
    rw [well_ref _ (h x hx), names_undec]]
theorem chk_zero (u : Un) : (chk u = 0) ↔ (u.on.all fun h => wellP h.2 && !undec u.vars h.2) = true := by
  unfold chk
  by_cases h : (u.on.all fun h => wellP h.2 && !undec u.vars h.2) = true
  · rw [if_pos h]; simp [h]
  · rw [if_neg h]
    constructor
    · intro e; cases e
    · exact fun e => absurd e h
theorem chk_or (u : Un) : chk u = 0 ∨ chk u = 11 := by unfold chk; split <;> simp
/-- A program is right exactly if its handlers alone are. -/
theorem chk_one (u : Un) : decide (chk u = 0) = u.on.all fun h => decide (chk { u with on := [h] } = 0) := by
  rw [Bool.eq_iff_iff, decide_eq_true_iff, chk_zero, List.all_eq_true, List.all_eq_true]
  constructor
  · intro h x hx
    rw [decide_eq_true_iff, chk_zero]
    simp only [List.all_cons, List.all_nil, Bool.and_true]
    exact h x hx
  · intro h x hx
    have := h x hx
    rw [decide_eq_true_iff, chk_zero] at this
    simp only [List.all_cons, List.all_nil, Bool.and_true] at this
    exact this
/-- Which of the names are durable does not matter. -/
theorem inL_append (a b : List ByteArray) (s : ByteArray) : inL (a ++ b) s = (inL a s || inL b s) := by unfold inL; rw [List.any_append]
theorem undec_congr {l m : List ByteArray} (h : ∀ s, inL l s = inL m s) (t : Nd) : undec l t = undec m t := by
  rw [undec_occ, undec_occ]
  congr 1
  funext s
  rw [h]
theorem chk_swap (u : Un) : chk { dur := u.vol, vol := u.dur, on := u.on } = chk u := by
  unfold chk
  rw [all_congr_mem (q := fun h => wellP h.2 && !undec u.vars h.2) fun x _ => by
    rw [undec_congr (l := Un.vars { dur := u.vol, vol := u.dur, on := u.on }) (m := u.vars) fun s => by unfold Un.vars; rw [inL_append, inL_append, Bool.or_comm]]]
/-- More variables change nothing for a tree that does not hold their names. -/
theorem undec_more (l : List ByteArray) (s : ByteArray) (t : Nd) (h : ¬ s ∈ occ t) : undec (s :: l) t = undec l t := by
  rw [undec_occ, undec_occ, Bool.eq_iff_iff, List.any_eq_true, List.any_eq_true]
  have key : ∀ x ∈ occ t, inL (s :: l) x = inL l x := by
    intro x hx
    unfold inL
    rw [List.any_cons, decide_eq_false (p := s = x) (fun e => h (e ▸ hx)), Bool.false_or]
  constructor
  · rintro ⟨x, hx, k⟩
    exact ⟨x, hx, by rw [← key x hx]; exact k⟩
  · rintro ⟨x, hx, k⟩
    exact ⟨x, hx, by rw [key x hx]; exact k⟩
/-- One variable fewer. -/
def less (l : List ByteArray) (s : ByteArray) : List ByteArray := l.filter fun x => !decide (x = s)
theorem inL_less (l : List ByteArray) (s x : ByteArray) : inL (less l s) x = (inL l x && !decide (x = s)) := by
  rw [Bool.eq_iff_iff, inL_iff, Bool.and_eq_true, inL_iff]
  unfold less
  rw [List.mem_filter]
theorem undec_less (l : List ByteArray) (s : ByteArray) (t : Nd) : undec (less l s) t = (undec l t || inL (occ t) s) := by
  rw [undec_occ, undec_occ, Bool.eq_iff_iff, Bool.or_eq_true, List.any_eq_true, List.any_eq_true, inL_iff]
  constructor
  · rintro ⟨x, hx, k⟩
    rw [inL_less] at k
    by_cases e : x = s
    · exact .inr (e ▸ hx)
    · rw [decide_eq_false (p := x = s) e, Bool.not_false, Bool.and_true] at k
      exact .inl ⟨x, hx, k⟩
  · rintro (⟨x, hx, k⟩ | h)
    · refine ⟨x, hx, ?_⟩
      rw [inL_less]
      rw [Bool.not_eq_true'] at k ⊢
      rw [k, Bool.false_and]
    · refine ⟨s, h, ?_⟩
      rw [inL_less]
      simp

/-! ### Renaming -/
/-- Every variable's name with a suffix. -/
def ren (x : ByteArray → ByteArray) : Nd → Nd
  | .mk k n s l => .mk k n (if k = 1 ∨ k = 14 then x s else s) (l.map (ren x))
theorem ren_eq (x : ByteArray → ByteArray) (k n : Int) (s : ByteArray) (l : List Nd) : ren x (.mk k n s l) = .mk k n (if k = 1 ∨ k = 14 then x s else s) (l.map (ren x)) := by rw [ren]
theorem ty_ren (x : ByteArray → ByteArray) : ∀ t, tyOf (ren x t) = tyOf t := by
  intro t
  induction t using Nd.ind with
  | h k n s l ih =>
    rw [ren_eq, tyOf_eq, tyOf_eq, List.map_map]
    have hm : l.map (tyOf ∘ ren x) = l.map tyOf := List.map_congr_left fun y hy => ih y hy
    rw [hm]
    by_cases hk : k = 1 ∨ k = 14
    · rw [if_pos hk]
      rcases hk with rfl | rfl <;> rfl
    · rw [if_neg hk]
theorem well_ren (x : ByteArray → ByteArray) : ∀ t, wellP (ren x t) = wellP t := by
  intro t
  induction t using Nd.ind with
  | h k n s l ih =>
    rw [ren_eq, wellP_eq, wellP_eq, List.map_map, List.map_map]
    have h1 : l.map (tyOf ∘ ren x) = l.map tyOf := List.map_congr_left fun y _ => ty_ren x y
    have h2 : l.map (wellP ∘ ren x) = l.map wellP := List.map_congr_left fun y hy => ih y hy
    rw [h1, h2]
theorem occ_ren (x : ByteArray → ByteArray) : ∀ t, occ (ren x t) = (occ t).map x := by
  intro t
  induction t using Nd.ind with
  | h k n s l ih =>
    rw [ren_eq, occ_eq, occ_eq, List.map_map, List.map_append, List.map_flatten, List.map_map]
    have h1 : l.map (occ ∘ ren x) = l.map ((fun y => y.map x) ∘ occ) := List.map_congr_left fun y hy => ih y hy
    rw [h1]
    congr 1
    split <;> rfl
theorem inL_map {x : ByteArray → ByteArray} (hx : ∀ a b, x a = x b → a = b) (l : List ByteArray) (s : ByteArray) : inL (l.map x) (x s) = inL l s := by
  rw [Bool.eq_iff_iff, inL_iff, inL_iff, List.mem_map]
  constructor
  · rintro ⟨a, ha, e⟩
    exact hx _ _ e ▸ ha
  · exact fun h => ⟨s, h, rfl⟩
theorem undec_ren {x : ByteArray → ByteArray} (hx : ∀ a b, x a = x b → a = b) (l : List ByteArray) (t : Nd) : undec (l.map x) (ren x t) = undec l t := by
  rw [undec_occ, undec_occ, occ_ren, List.any_map]
  congr 1
  funext s
  show (!inL (l.map x) (x s)) = _
  rw [inL_map hx]
def Un.ren (x : ByteArray → ByteArray) (u : Un) : Un := { dur := u.dur.map x, vol := u.vol.map x, on := u.on.map fun h => (h.1, TY.ren x h.2) }
theorem chk_ren {x : ByteArray → ByteArray} (hx : ∀ a b, x a = x b → a = b) (u : Un) : chk (u.ren x) = chk u := by
  unfold chk Un.ren Un.vars
  simp only [List.all_map, ← List.map_append]
  rw [all_congr_mem (q := fun h => wellP h.2 && !undec (u.dur ++ u.vol) h.2) fun h _ => by
    show (wellP (TY.ren x h.2) && !undec ((u.dur ++ u.vol).map x) (TY.ren x h.2)) = _
    rw [well_ren, undec_ren hx]]
theorem idx_ren {x : ByteArray → ByteArray} (hx : ∀ a b, x a = x b → a = b) (l : List ByteArray) (s : ByteArray) : idx (l.map x) (x s) = idx l s := by
  unfold idx
  rw [inL_map hx]
  split
  · congr 1
    rw [List.findIdx_map]
    congr 1
    funext a
    show decide (x a = x s) = decide (a = s)
    rw [decide_eq_decide]
    exact ⟨hx _ _, fun e => e ▸ rfl⟩
  · rfl

/-! ### Substitution -/
/-- The children, one after another; c: how many were counted. -/
def kidsR : List (Int → Nd × Int) → Int → Int → List Nd × Int
  | [], _, c => ([], c)
  | f :: r, a, c => let x := f (a - c); let z := kidsR r a (c + x.2); (x.1 :: z.1, z.2)
/-- The reference's Replace. -/
def repl (typ : Nat) (by_ : Nd) : Nd → Int → Nd × Int
  | .mk k n s l => fun a =>
    let c : Int := if refTy (.mk k n s l) = typ then 1 else 0
    if c = 1 ∧ a = 0 then (by_, 1) else let z := kidsR (l.map (repl typ by_)) a c; (.mk k n s z.1, z.2)
theorem repl_eq (typ : Nat) (by_ : Nd) (k n : Int) (s : ByteArray) (l : List Nd) (a : Int) : repl typ by_ (.mk k n s l) a = if (if refTy (.mk k n s l) = typ then (1 : Int) else 0) = 1 ∧ a = 0 then (by_, 1) else (.mk k n s (kidsR (l.map (repl typ by_)) a (if refTy (.mk k n s l) = typ then 1 else 0)).1, (kidsR (l.map (repl typ by_)) a (if refTy (.mk k n s l) = typ then 1 else 0)).2) := by rw [repl]
theorem kidsR_ty {typ : Nat} {by_ : Nd} : ∀ (l : List Nd) (a c : Int), (∀ x ∈ l, ∀ b, tyOf (repl typ by_ x b).1 = tyOf x) → (kidsR (l.map (repl typ by_)) a c).1.map tyOf = l.map tyOf
  | [], _, _, _ => rfl
  | x :: t, a, c, h => by
    rw [List.map_cons, kidsR]
    simp only [List.map_cons]
    rw [h x (by simp), kidsR_ty t a _ fun y hy => h y (List.mem_cons_of_mem _ hy)]
/-- Replacing by an expression of the type keeps the type of the whole. -/
theorem repl_ty {typ : Nat} {by_ : Nd} (hb : tyOf by_ = typ) : ∀ t, Fit t → ∀ a, tyOf (repl typ by_ t a).1 = tyOf t := by
  intro t
  induction t using Nd.ind with
  | h k n s l ih =>
    intro hf a
    have hf' := hf
    cases hf with
    | mk _ _ _ _ _ h2 =>
      have hkids : ∀ c, (kidsR (l.map (repl typ by_)) a c).1.map tyOf = l.map tyOf := fun c => kidsR_ty l a c fun x hx b => ih x hx (h2 x hx) b
      by_cases hr : refTy (.mk k n s l) = typ
      · rw [repl_eq, if_pos hr]
        by_cases ha : a = 0
        · rw [if_pos ⟨rfl, ha⟩, ty_ref _ hf', hr]
          exact hb
        · rw [if_neg (fun e => ha e.2)]
          show tyOf (.mk k n s _) = _
          rw [tyOf_eq, tyOf_eq, hkids]
      · rw [repl_eq, if_neg hr, if_neg (fun e => by cases e.1)]
        show tyOf (.mk k n s _) = _
        rw [tyOf_eq, tyOf_eq, hkids]

/-! ### Generated programs -/
def varsG (skip : Nat) (f : Nat → Bool) : List ByteArray := ((List.range 10).filter fun i => decide (i ≠ skip) && f i).map vName
/-- The handlers from number h on. -/
def onG (L : List Int) (nums : List Int) : Nat → Nat → List (Int × Nd)
  | 0, _ => []
  | m + 1, i => if nxt L i 3 < 2 then let a := blockG L (stG L 2) (i + 1); (nums[4 - (m + 1)]?.getD 0, a.1) :: onG L nums m a.2 else onG L nums m (i + 1)
def unitG (L : List Int) : Un :=
  let skip := nxt L 0 40
  let split := nxt L 1 11
  { dur := varsG skip fun i => decide (i < split), vol := varsG skip fun i => !decide (i < split), on := onG L [0, 1, 2 + (nxt L 2 8 : Int), 10 + (nxt L 3 30 : Int)] 4 4 }
theorem onG_fit (L : List Int) (nums : List Int) : ∀ m i, ∀ x ∈ onG L nums m i, FitS x.2
  | 0, _, x, hx => by cases hx
  | m + 1, i, x, hx => by
    unfold onG at hx
    dsimp only at hx
    split at hx
    · rcases List.mem_cons.1 hx with rfl | hx
      · exact blockG_fit L (stG_fit L 2) _
      · exact onG_fit L nums m _ x hx
    · exact onG_fit L nums m _ x hx
end Go.Proofs.Ytligbandpmgmaaa.TY
