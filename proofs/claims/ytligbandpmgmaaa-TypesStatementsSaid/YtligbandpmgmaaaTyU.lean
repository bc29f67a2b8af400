/-
  Statements and programs: well-typed by the program's rules and by the reference's; names; generated programs. Plain mathematics; no function of the program.
-/
import Derived.Test.YtligbandpmgmaaaTyM
namespace Go.Proofs.Ytligbandpmgmaaa.TY

/-! ### Statements -/
/-- Well-typed, by the program. -/
def wellP : Nd → Bool
  | .mk k _ _ l =>
    if k = 2 ∨ k = 3 then decide ((l.map tyOf).head? = some 2) && ((l.map wellP).drop 1).all id
    else if k = 11 then (l.map wellP).all id
    else if k = 1 ∨ k = 4 ∨ k = 8 ∨ k = 9 then (l.map tyOf).all fun t => decide (t = 1)
    else decide (k = 5 ∨ k = 6 ∨ k = 7 ∨ k = 10)
theorem wellP_eq (k n : Int) (s : ByteArray) (l : List Nd) : wellP (.mk k n s l) = if k = 2 ∨ k = 3 then decide ((l.map tyOf).head? = some 2) && ((l.map wellP).drop 1).all id
    else if k = 11 then (l.map wellP).all id
    else if k = 1 ∨ k = 4 ∨ k = 8 ∨ k = 9 then (l.map tyOf).all fun t => decide (t = 1)
    else decide (k = 5 ∨ k = 6 ∨ k = 7 ∨ k = 10) := by rw [wellP]
/-- Well-typed, by the reference. -/
def wellR : Nd → Bool
  | .mk k _ _ l =>
    if k = 11 then (l.map wellR).all id
    else if k = 2 ∨ k = 3 then ((l.map wellR).drop 1).all id && decide ((l.map refTy).head? = some 2)
    else (l.map refTy).all fun t => decide (t = 1)
theorem wellR_eq (k n : Int) (s : ByteArray) (l : List Nd) : wellR (.mk k n s l) = if k = 11 then (l.map wellR).all id
    else if k = 2 ∨ k = 3 then ((l.map wellR).drop 1).all id && decide ((l.map refTy).head? = some 2)
    else (l.map refTy).all fun t => decide (t = 1) := by rw [wellR]
/-- A statement as the grammar has it. -/
inductive FitS : Nd → Prop
  | plain (k n : Int) (s : ByteArray) (l : List Nd) : (k = 1 ∨ k = 4 ∨ k = 8 ∨ k = 9) → (∀ x ∈ l, Fit x) → FitS (.mk k n s l)
  | bare (k n : Int) (s : ByteArray) : (k = 5 ∨ k = 6 ∨ k = 7 ∨ k = 10) → FitS (.mk k n s [])
  | cond (k n : Int) (s : ByteArray) (c : Nd) (l : List Nd) : (k = 2 ∨ k = 3) → Fit c → (∀ x ∈ l, FitS x) → FitS (.mk k n s (c :: l))
  | block (n : Int) (s : ByteArray) (l : List Nd) : (∀ x ∈ l, FitS x) → FitS (.mk 11 n s l)
theorem well_ref : ∀ t, FitS t → wellP t = wellR t := by
  intro t
  induction t using Nd.ind with
  | h k n s l ih =>
    intro hf
    rw [wellP_eq, wellR_eq]
    cases hf with
    | plain _ _ _ _ hk hl =>
      have hm : l.map tyOf = l.map refTy := List.map_congr_left fun x hx => ty_ref x (hl x hx)
      rw [if_neg (by omega), if_neg (by omega), if_pos hk, if_neg (by omega), if_neg (by omega), hm]
    | bare _ _ _ hk =>
      rw [if_neg (by omega), if_neg (by omega), if_neg (by omega), if_neg (by omega), if_neg (by omega), decide_eq_true hk]
      rfl
    | cond _ _ _ c l hk hc hl =>
      rw [if_pos hk, if_neg (by omega), if_pos hk]
      have hm : l.map wellP = l.map wellR := List.map_congr_left fun x hx => ih x (List.mem_cons_of_mem _ hx) (hl x hx)
      simp only [List.map_cons, List.drop_succ_cons, List.drop_zero, List.head?_cons]
      rw [hm, ty_ref c hc, Bool.and_comm]
    | block _ _ _ hl =>
      have hm : l.map wellP = l.map wellR := List.map_congr_left fun x hx => ih x hx (hl x hx)
      rw [if_neg (by decide), if_pos rfl, if_pos rfl, hm]

/-! ### Names -/
/-- The names of variables in a tree, in order. -/
def occ : Nd → List ByteArray
  | .mk k _ s l => (if k = 1 ∨ k = 14 then [s] else []) ++ (l.map occ).flatten
theorem occ_eq (k n : Int) (s : ByteArray) (l : List Nd) : occ (.mk k n s l) = (if k = 1 ∨ k = 14 then [s] else []) ++ (l.map occ).flatten := by rw [occ]
/-- The reference's list of names, without repetition. -/
def addN (l : List ByteArray) (s : ByteArray) : List ByteArray := if inL l s then l else l ++ [s]
theorem addN_mem {l : List ByteArray} {s x : ByteArray} : x ∈ addN l s ↔ x ∈ l ∨ x = s := by
  unfold addN
  by_cases h : inL l s = true
  · rw [if_pos h]
    have := inL_iff.1 h
    constructor
    · exact .inl
    · rintro (h | rfl)
      · exact h
      · exact this
  · rw [if_neg h]
    simp
/-- The names of a tree behind those of a list. -/
def names (t : Nd) (acc : List ByteArray) : List ByteArray := (occ t).foldl addN acc
theorem foldN_mem {x : ByteArray} : ∀ (l acc : List ByteArray), x ∈ l.foldl addN acc ↔ x ∈ acc ∨ x ∈ l
  | [], acc => by simp
  | s :: t, acc => by
    rw [List.foldl_cons, foldN_mem t, addN_mem, List.mem_cons, or_assoc]
theorem names_mem {x : ByteArray} (t : Nd) (acc : List ByteArray) : x ∈ names t acc ↔ x ∈ acc ∨ x ∈ occ t := foldN_mem _ _
/-- A node's names, then its children's. -/
theorem names_node (k n : Int) (s : ByteArray) (l : List Nd) (acc : List ByteArray) : names (.mk k n s l) acc = l.foldl (fun a x => names x a) (if k = 1 ∨ k = 14 then addN acc s else acc) := by
  unfold names
  rw [occ_eq, List.foldl_append]
  have h1 : (if k = 1 ∨ k = 14 then [s] else []).foldl addN acc = if k = 1 ∨ k = 14 then addN acc s else acc := by split <;> rfl
  rw [h1]
  generalize (if k = 1 ∨ k = 14 then addN acc s else acc) = b
  induction l generalizing b with
  | nil => rfl
  | cons y m ih => rw [List.map_cons, List.flatten_cons, List.foldl_append, List.foldl_cons, ih]
/-- A program: durable and volatile variables, handlers. -/
structure Un where
  dur : List ByteArray
  vol : List ByteArray
  on : List (Int × Nd)
/-- The number of a variable. -/
def idx (l : List ByteArray) (s : ByteArray) : Int := if inL l s then ((l.findIdx fun x => decide (x = s) : Nat) : Int) else -1
def Un.vars (u : Un) : List ByteArray := u.dur ++ u.vol
/-- A tree holds a name that is no variable. -/
def undec (l : List ByteArray) : Nd → Bool
  | .mk k _ s kids => (decide (k = 1 ∨ k = 14) && !inL l s) || (kids.map (undec l)).any id
theorem undec_eq (l : List ByteArray) (k n : Int) (s : ByteArray) (kids : List Nd) : undec l (.mk k n s kids) = ((decide (k = 1 ∨ k = 14) && !inL l s) || (kids.map (undec l)).any id) := by rw [undec]
theorem undec_occ (l : List ByteArray) : ∀ t, undec l t = (occ t).any fun s => !inL l s := by
  intro t
  induction t using Nd.ind with
  | h k n s kids ih =>
    rw [undec_eq, occ_eq, List.any_append]
    have h2 : (kids.map (undec l)).any id = ((kids.map occ).flatten).any fun s => !inL l s := by
      induction kids with
      | nil => rfl
      | cons a m ihm =>
        rw [List.map_cons, List.map_cons, List.flatten_cons, List.any_append, List.any_cons, ihm (fun x hx => ih x (List.mem_cons_of_mem _ hx)), ih a (by simp)]
        rfl
    rw [h2]
    congr 1
    by_cases hk : k = 1 ∨ k = 14
    · rw [if_pos hk, decide_eq_true hk]; simp
    · rw [if_neg hk, decide_eq_false hk]; simp
/-- Check's answer. -/
def chk (u : Un) : Int := if u.on.all fun h => wellP h.2 && !undec u.vars h.2 then 0 else 11

/-! ### Generated programs -/
abbrev Gen := Nat → Nd × Nat
/-- A list of trees, one after another. -/
def many (g : Gen) : Nat → Nat → List Nd × Nat
  | 0, i => ([], i)
  | m + 1, i => let a := g i; let r := many g m a.2; (a.1 :: r.1, r.2)
def blockG (L : List Int) (st : Gen) (i : Nat) : Nd × Nat :=
  let r := many st (nxt L i 4) (i + 1)
  (.mk 11 0 eps r.1, r.2)
/-- A statement; 'sub' builds the blocks of a deeper level, where there is one. -/
def stF (L : List Int) (deep : Bool) (sub : Gen) (i : Nat) : Nd × Nat :=
  let k0 := nxt L i 13
  let k := if deep = false ∧ 10 < k0 then 0 else k0
  if k = 3 ∨ k = 4 then
    let n := nxt L (i + 1) 30
    let a := genE L 2 1 (i + 2)
    let b := genE L 2 1 a.2
    let c := genE L 1 1 b.2
    (.mk 4 n eps [a.1, b.1, c.1], c.2)
  else if k = 5 then let a := genE L 2 1 (i + 1); let b := genE L 2 1 a.2; (.mk 8 0 eps [a.1, b.1], b.2)
  else if k = 6 then let a := genE L 2 1 (i + 1); (.mk 9 0 eps [a.1], a.2)
  else if k = 7 then (.mk 5 (nxt L (i + 1) 8) eps [], i + 2)
  else if k = 8 then (.mk 6 (nxt L (i + 1) 8) eps [], i + 2)
  else if k = 9 then (.mk 7 0 eps [], i + 1)
  else if k = 10 then (.mk 10 0 eps [], i + 1)
  else if k = 11 then let c := genE L 2 2 (i + 1); let a := sub c.2; let b := sub a.2; (.mk 2 0 eps [c.1, a.1, b.1], b.2)
  else if k = 12 then let c := genE L 2 2 (i + 1); let a := sub c.2; (.mk 3 0 eps [c.1, a.1], a.2)
  else let a := genE L 3 1 (i + 2); (.mk 1 0 (vName (nxt L (i + 1) 10)) [a.1], a.2)
def stG (L : List Int) : Nat → Gen
  | 0 => stF L false fun i => (.mk 11 0 eps [], i)
  | d + 1 => stF L true (blockG L (stG L d))
theorem many_fit {g : Gen} {P : Nd → Prop} (h : ∀ i, P (g i).1) : ∀ m i, ∀ x ∈ (many g m i).1, P x
  | 0, _, x, hx => by cases hx
  | m + 1, i, x, hx => by
    rcases List.mem_cons.1 hx with rfl | hx
    · exact h i
    · exact many_fit h m _ x hx
theorem blockG_fit (L : List Int) {st : Gen} (h : ∀ i, FitS (st i).1) (i : Nat) : FitS (blockG L st i).1 := .block _ _ _ (many_fit h _ _)
theorem stF_fit (L : List Int) (deep : Bool) {sub : Gen} (h : ∀ i, FitS (sub i).1) (i : Nat) : FitS (stF L deep sub i).1 := by
  have hE := fun d t j => genE_fit L d t j
  unfold stF
  dsimp only
  repeat' split
  all_goals first
    | exact .bare _ _ _ (by decide)
    | (refine .plain _ _ _ _ (by decide) fun x hx => ?_
       simp only [List.mem_cons, List.not_mem_nil, or_false] at hx
       first
         | (rcases hx with rfl | rfl | rfl <;> exact hE _ _ _)
         | (rcases hx with rfl | rfl <;> exact hE _ _ _)
         | (subst hx; exact hE _ _ _))
    | (refine .cond _ _ _ _ _ (by decide) (hE _ _ _) fun x hx => ?_
       simp only [List.mem_cons, List.not_mem_nil, or_false] at hx
       first
         | (rcases hx with rfl | rfl <;> exact h _)
         | (subst hx; exact h _))
theorem stG_fit (L : List Int) : ∀ d i, FitS (stG L d i).1
  | 0 => stF_fit L false fun _ => .block _ _ _ fun x hx => by cases hx
  | d + 1 => stF_fit L true (blockG_fit L (stG_fit L d))
end Go.Proofs.Ytligbandpmgmaaa.TY
