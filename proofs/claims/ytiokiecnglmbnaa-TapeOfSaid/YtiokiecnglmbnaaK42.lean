/-
  Leaving out parts of a list by their numbers; one by one from the greatest to the least gives the same. Pure.
-/
import Derived.Test.YtiokiecnglmbnaaK6

namespace Go.Proofs.Ytiokiecnglmbnaa
open Go Go.Proofs
namespace TP
/-- Without the elements whose numbers, counted from f, are in o. -/
def sub {α : Type} (o : List Int) : Nat → List α → List α
  | _, [] => []
  | f, x :: t => if ((f : Int) ∈ o) then sub o (f + 1) t else x :: sub o (f + 1) t
theorem sub_append {α : Type} (o : List Int) : ∀ (f : Nat) (a b : List α), sub o f (a ++ b) = sub o f a ++ sub o (f + a.length) b
  | f, [], b => rfl
  | f, x :: a, b => by
    show sub o f (x :: (a ++ b)) = _
    have e : f + (x :: a).length = f + 1 + a.length := by simp; omega
    rw [e, sub, sub, sub_append o (f + 1) a b]
    split <;> rfl
theorem sub_next {α : Type} {o : List Int} {f k : Nat} {l : List α} {x : α} (h : l[k]? = some x) : sub o f (l.take (k + 1)) = sub o f (l.take k) ++ (if ((f : Int) + (k : Int) ∈ o) then [] else [x]) := by
  rw [List.take_add_one, h, show (some x).toList = [x] from rfl, sub_append]
  congr 1
  have hk : k < l.length := (List.getElem?_eq_some_iff.1 h).1
  rw [List.length_take, Nat.min_eq_left (by omega), sub, sub]
  rw [show ((f + k : Nat) : Int) = (f : Int) + (k : Int) by omega]
theorem sub_len {α : Type} (o : List Int) : ∀ (f : Nat) (l : List α), (sub o f l).length ≤ l.length
  | _, [] => Nat.le_refl _
  | f, x :: t => by
    have := sub_len o (f + 1) t
    rw [sub]
    split
    · simp; omega
    · simp; omega
theorem sub_lst {α : Type} (o : List Int) : ∀ (f : Nat) (l : List α), (sub o f l).Sublist l
  | _, [] => List.Sublist.refl _
  | f, x :: t => by
    rw [sub]
    split
    · exact (sub_lst o (f + 1) t).cons x
    · exact (sub_lst o (f + 1) t).cons_cons x
theorem sub_map {α β : Type} (g : α → β) (o : List Int) : ∀ (f : Nat) (l : List α), sub o f (l.map g) = (sub o f l).map g
  | _, [] => rfl
  | f, x :: t => by
    rw [List.map_cons, sub, sub, sub_map g o (f + 1) t]
    split <;> simp
theorem sub_none {α : Type} {o : List Int} : ∀ {f : Nat} {l : List α}, (∀ k : Nat, k < l.length → ((f : Int) + (k : Int)) ∉ o) → sub o f l = l
  | _, [], _ => rfl
  | f, x :: t, h => by
    rw [sub, if_neg (by have := h 0 (by simp); simpa using this), sub_none fun k hk => by
      have := h (k + 1) (by simp; omega)
      rwa [show ((f : Int) + ((k + 1 : Nat) : Int)) = (((f + 1 : Nat) : Int) + (k : Int)) by omega] at this]
theorem sub_all {α : Type} {o : List Int} : ∀ {f : Nat} {l : List α}, (∀ k : Nat, k < l.length → ((f : Int) + (k : Int)) ∈ o) → sub o f l = []
  | _, [], _ => rfl
  | f, x :: t, h => by
    rw [sub, if_pos (by have := h 0 (by simp); simpa using this), sub_all fun k hk => by
      have := h (k + 1) (by simp; omega)
      rwa [show ((f : Int) + ((k + 1 : Nat) : Int)) = (((f + 1 : Nat) : Int) + (k : Int)) by omega] at this]
theorem sub_congr {α : Type} {o o' : List Int} : ∀ {f : Nat} {l : List α}, (∀ k : Nat, k < l.length → (((f : Int) + (k : Int)) ∈ o ↔ ((f : Int) + (k : Int)) ∈ o')) → sub o f l = sub o' f l
  | _, [], _ => rfl
  | f, x :: t, h => by
    have h0 := h 0 (by simp)
    rw [show ((f : Int) + ((0 : Nat) : Int)) = (f : Int) by omega] at h0
    have ht : sub o (f + 1) t = sub o' (f + 1) t := sub_congr fun k hk => by
      have := h (k + 1) (by simp; omega)
      rwa [show ((f : Int) + ((k + 1 : Nat) : Int)) = (((f + 1 : Nat) : Int) + (k : Int)) by omega] at this
    rw [sub, sub, ht]
    by_cases e : (f : Int) ∈ o
    · rw [if_pos e, if_pos (h0.1 e)]
    · rw [if_neg e, if_neg (fun e' => e (h0.2 e'))]
/-- The numbers of o from k on. -/
def from_ (k : Nat) (o : List Int) : List Int := o.filter fun x => decide ((k : Int) ≤ x)
theorem mem_from {k : Nat} {o : List Int} {x : Int} : x ∈ from_ k o ↔ x ∈ o ∧ (k : Int) ≤ x := by simp [from_, List.mem_filter]
/-- One part less, below all those that are left out already. -/
theorem sub_one {α : Type} (o : List Int) (k : Nat) (c : List α) (hk : k < c.length) : sub [(k : Int)] 0 (sub (from_ (k + 1) o) 0 c) = if (k : Int) ∈ o then sub (from_ k o) 0 c else sub [(k : Int)] 0 (sub (from_ (k + 1) o) 0 c) := by
  split
  case isFalse => rfl
  case isTrue h =>
    have hc : c = c.take k ++ (c[k] :: c.drop (k + 1)) := by rw [← List.drop_eq_getElem_cons hk, List.take_append_drop]
    generalize hx : c[k] = x at hc
    generalize ha : c.take k = a at hc
    generalize hb : c.drop (k + 1) = b at hc
    have hal : a.length = k := by rw [← ha, List.length_take]; omega
    subst hc
    clear hx ha hb
    have e1 : sub (from_ (k + 1) o) 0 (a ++ x :: b) = a ++ x :: sub (from_ (k + 1) o) (k + 1) b := by
      rw [sub_append, sub_none fun j hj => by rw [mem_from]; omega, sub, Nat.zero_add, hal, if_neg (by rw [mem_from]; omega)]
    have e2 : sub (from_ k o) 0 (a ++ x :: b) = a ++ sub (from_ k o) (k + 1) b := by
      rw [sub_append, sub_none fun j hj => by rw [mem_from]; omega, sub, Nat.zero_add, hal, if_pos (by rw [mem_from]; exact ⟨h, Int.le_refl _⟩)]
    have e3 : sub (from_ (k + 1) o) (k + 1) b = sub (from_ k o) (k + 1) b := sub_congr fun j hj => by
      rw [mem_from, mem_from]
      constructor
      · rintro ⟨h1, h2⟩; exact ⟨h1, by omega⟩
      · rintro ⟨h1, h2⟩; exact ⟨h1, by omega⟩
    rw [e1, e2, sub_append, sub_none fun j hj => by simp; omega, sub, Nat.zero_add, hal, if_pos (by simp), sub_none fun j hj => by simp; omega, e3]
/-- A tape's parts as one list. -/
def comb (es : List NM.Ev) (l : List An) : List (NM.Ev ⊕ An) := es.map .inl ++ l.map .inr
theorem comb_len (es : List NM.Ev) (l : List An) : (comb es l).length = es.length + l.length := by simp [comb]
theorem comb_inj {es es' : List NM.Ev} {l l' : List An} (h : comb es l = comb es' l') : es = es' ∧ l = l' := by
  unfold comb at h
  have key : ∀ (a b : List NM.Ev) (x y : List An), a.map Sum.inl ++ x.map Sum.inr = b.map (Sum.inl (β := An)) ++ y.map Sum.inr → a = b ∧ x = y := by
    intro a
    induction a with
    | nil =>
      intro b x y h
      cases b with
      | nil => exact ⟨rfl, (List.map_inj_right (f := Sum.inr (α := NM.Ev)) fun _ _ e => by injection e).1 (by simpa using h)⟩
      | cons u b => cases x <;> simp at h
    | cons v a ih =>
      intro b x y h
      cases b with
      | nil => cases y <;> simp at h
      | cons u b =>
        simp only [List.map_cons, List.cons_append, List.cons.injEq, Sum.inl.injEq] at h
        obtain ⟨rfl, h⟩ := h
        obtain ⟨rfl, h2⟩ := ih b x y h
        exact ⟨rfl, h2⟩
  exact key _ _ _ _ h
theorem comb_sub (o : List Int) (es : List NM.Ev) (l : List An) : comb (sub o 0 es) (sub o es.length l) = sub o 0 (comb es l) := by
  unfold comb
  rw [sub_append, sub_map, sub_map, List.length_map, Nat.zero_add]
/-- Without some parts, of a normal tape. -/
def wo (o : List Int) (t : List NM.Ev × List An) : List NM.Ev × List An := (sub o 0 t.1, sub o t.1.length t.2)
theorem wo_one (o : List Int) (k : Nat) (t : List NM.Ev × List An) (hk : k < t.1.length + t.2.length) (h : (k : Int) ∈ o) : wo [(k : Int)] (wo (from_ (k + 1) o) t) = wo (from_ k o) t := by
  have h1 := sub_one o k (comb t.1 t.2) (by rw [comb_len]; exact hk)
  rw [if_pos h, ← comb_sub, ← comb_sub, ← comb_sub] at h1
  obtain ⟨h2, h3⟩ := comb_inj h1
  exact Prod.ext h2 h3
theorem from_skip {o : List Int} {k : Nat} (h : (k : Int) ∉ o) : from_ (k + 1) o = from_ k o := by
  unfold from_
  refine List.filter_congr fun x hx => ?_
  have : x ≠ (k : Int) := fun e => h (e ▸ hx)
  rw [decide_eq_decide]
  omega
theorem wo_from {o : List Int} {n : Nat} (t : List NM.Ev × List An) (hn : t.1.length + t.2.length ≤ n) : wo (from_ n o) t = t := by
  unfold wo
  refine Prod.ext ?_ ?_
  · exact sub_none fun k hk => by rw [mem_from]; omega
  · exact sub_none fun k hk => by rw [mem_from]; omega
theorem wo_zero (o : List Int) (t : List NM.Ev × List An) : wo (from_ 0 o) t = wo o t := by
  unfold wo
  refine Prod.ext ?_ ?_
  · exact sub_congr fun k hk => by rw [mem_from]; constructor <;> intro h <;> first | exact h.1 | exact ⟨h, by omega⟩
  · exact sub_congr fun k hk => by rw [mem_from]; constructor <;> intro h <;> first | exact h.1 | exact ⟨h, by omega⟩
/-- What is left of a normal tape is one. -/
theorem norm_sub (o : List Int) (f : Nat) {l : List An} (h : normA l = l) : normA (sub o f l) = sub o f l := by
  have hs := sub_lst o f l
  refine norm_self ?_ fun x hx => ?_
  · have := norm_srt l
    rw [h] at this
    exact List.Pairwise.sublist hs this
  · have hm : x ∈ normA l := by rw [h]; exact hs.mem hx
    exact (mem_norm.1 hm).2
end TP
end Go.Proofs.Ytiokiecnglmbnaa
