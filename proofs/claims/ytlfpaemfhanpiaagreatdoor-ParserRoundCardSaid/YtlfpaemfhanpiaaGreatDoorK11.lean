/-
  Syntax trees; their types by the program's table and by the reference's; generated expressions. Plain mathematics; no function of the program.
-/

namespace Go.Proofs.YtlfpaemfhanpiaaGreatDoor.TY

/-- A node of a syntax tree. -/
inductive Nd where
  | mk (k n : Int) (s : ByteArray) (kids : List Nd)
namespace Nd
def kind : Nd → Int | mk k _ _ _ => k
def num : Nd → Int | mk _ n _ _ => n
def str : Nd → ByteArray | mk _ _ s _ => s
def kids : Nd → List Nd | mk _ _ _ l => l
end Nd
instance : Inhabited Nd := ⟨.mk 0 0 ⟨#[]⟩ []⟩
/-- Induction over trees. -/
theorem Nd.ind {P : Nd → Prop} (h : ∀ k n s l, (∀ x ∈ l, P x) → P (.mk k n s l)) : ∀ t, P t := by
  intro t
  refine Nd.rec (motive_1 := P) (motive_2 := fun l => ∀ x ∈ l, P x) (fun k n s l ih => h k n s l ih) (fun x hx => by cases hx) (fun a l ha hl x hx => ?_) t
  rcases List.mem_cons.1 hx with rfl | hx
  · exact ha
  · exact hl x hx

abbrev sMinus : ByteArray := ⟨#[45]⟩
abbrev sNot : ByteArray := ⟨#[33]⟩
abbrev sPlus : ByteArray := ⟨#[43]⟩
abbrev sMul : ByteArray := ⟨#[42]⟩
abbrev sDiv : ByteArray := ⟨#[47]⟩
abbrev sLt : ByteArray := ⟨#[60]⟩
abbrev sLe : ByteArray := ⟨#[60, 61]⟩
abbrev sGt : ByteArray := ⟨#[62]⟩
abbrev sGe : ByteArray := ⟨#[62, 61]⟩
abbrev sEq : ByteArray := ⟨#[61, 61]⟩
abbrev sNe : ByteArray := ⟨#[33, 61]⟩
abbrev sAnd : ByteArray := ⟨#[38, 38]⟩
abbrev sOr : ByteArray := ⟨#[124, 124]⟩
/-- A list contains a string. -/
def inL (l : List ByteArray) (s : ByteArray) : Bool := l.any fun x => decide (x = s)
theorem inL_iff {l : List ByteArray} {s : ByteArray} : inL l s = true ↔ s ∈ l := by
  unfold inL
  rw [List.any_eq_true]
  constructor
  · rintro ⟨x, hx, h⟩
    rw [decide_eq_true_iff] at h
    exact h ▸ hx
  · exact fun h => ⟨s, h, by simp⟩
/-- The program's rules: the operands' types and the result's. -/
def ruleU (s : ByteArray) : List Nat × Nat := if s = sMinus then ([1], 1) else if s = sNot then ([2], 2) else ([], 0)
def ruleB (s : ByteArray) : List Nat × Nat :=
  if inL [sPlus, sMinus, sMul, sDiv] s then ([1, 1], 1) else if inL [sLt, sLe, sGt, sGe, sEq, sNe] s then ([1, 1], 2) else if inL [sAnd, sOr] s then ([2, 2], 2) else ([], 0)
/-- The rule of a node that has one. -/
def rule (k : Int) (s : ByteArray) : List Nat × Nat := if k = 16 then ([1], 1) else if k = 17 then ruleU s else if k = 18 then ruleB s else ([], 0)
/-- The type of an expression by the program's table. -/
def tyOf : Nd → Nat
  | .mk k _ s l =>
    if k = 12 ∨ k = 14 ∨ k = 15 then 1 else if k = 13 then 2
    else if l.map tyOf = (rule k s).1 then (rule k s).2 else 0
/-- What the reference asks of the operands, and its result. -/
def refOp (k : Int) (s : ByteArray) : Nat := if (k = 17 ∧ s = sNot) ∨ (k = 18 ∧ inL [sAnd, sOr] s = true) then 2 else 1
def refRes (k : Int) (s : ByteArray) : Nat := if k = 18 ∧ inL [sLt, sLe, sGt, sGe, sEq, sNe] s = true then 2 else refOp k s
def refTy : Nd → Nat
  | .mk k _ s l =>
    if k = 12 ∨ k = 14 ∨ k = 15 then 1 else if k = 13 then 2
    else if k = 16 ∨ k = 17 ∨ k = 18 then (if (l.map refTy).all (fun t => decide (t = refOp k s)) then refRes k s else 0) else 0
/-- The operators, and how many operands they have. -/
def opOk (k : Int) (s : ByteArray) (n : Nat) : Prop :=
  (k = 16 ∧ n = 1) ∨ (k = 17 ∧ n = 1 ∧ (s = sMinus ∨ s = sNot)) ∨ (k = 18 ∧ n = 2 ∧ s ∈ [sPlus, sMinus, sMul, sDiv, sLt, sLe, sGt, sGe, sEq, sNe, sAnd, sOr])
/-- Every operator of the tree has its operands. -/
inductive Fit : Nd → Prop
  | mk (k n : Int) (s : ByteArray) (l : List Nd) : (k = 16 ∨ k = 17 ∨ k = 18 → opOk k s l.length) → (∀ x ∈ l, Fit x) → Fit (.mk k n s l)
theorem rule_fit {k : Int} {s : ByteArray} {n : Nat} (h : opOk k s n) : rule k s = (List.replicate n (refOp k s), refRes k s) := by
  rcases h with ⟨rfl, rfl⟩ | ⟨rfl, rfl, h⟩ | ⟨rfl, rfl, h⟩
  · rfl
  · rcases h with rfl | rfl <;> decide
  · simp only [List.mem_cons, List.not_mem_nil, or_false] at h
    rcases h with rfl | rfl | rfl | rfl | rfl | rfl | rfl | rfl | rfl | rfl | rfl | rfl <;> decide
theorem map_rep (a : Nat) : ∀ l : List Nat, l = List.replicate l.length a ↔ (l.all fun t => decide (t = a)) = true
  | [] => by simp
  | x :: t => by
    have ih := map_rep a t
    rw [List.length_cons, List.replicate_succ, List.all_cons, Bool.and_eq_true, ← ih]
    simp
theorem tyOf_eq (k n : Int) (s : ByteArray) (l : List Nd) : tyOf (.mk k n s l) = if k = 12 ∨ k = 14 ∨ k = 15 then 1 else if k = 13 then 2 else if l.map tyOf = (rule k s).1 then (rule k s).2 else 0 := by rw [tyOf]
theorem refTy_eq (k n : Int) (s : ByteArray) (l : List Nd) : refTy (.mk k n s l) = if k = 12 ∨ k = 14 ∨ k = 15 then 1 else if k = 13 then 2 else if k = 16 ∨ k = 17 ∨ k = 18 then (if (l.map refTy).all (fun t => decide (t = refOp k s)) then refRes k s else 0) else 0 := by rw [refTy]
/-- The two tables give one type to a tree whose operators have their operands. -/
theorem ty_ref : ∀ t, Fit t → tyOf t = refTy t := by
  intro t
  induction t using Nd.ind with
  | h k n s l ih =>
    intro hf
    cases hf with
    | mk _ _ _ _ h1 h2 =>
      rw [tyOf_eq, refTy_eq]
      have hm : l.map tyOf = l.map refTy := List.map_congr_left fun x hx => ih x hx (h2 x hx)
      by_cases ha : k = 12 ∨ k = 14 ∨ k = 15
      · rw [if_pos ha, if_pos ha]
      · rw [if_neg ha, if_neg ha]
        by_cases hb : k = 13
        · rw [if_pos hb, if_pos hb]
        · rw [if_neg hb, if_neg hb]
          by_cases hc : k = 16 ∨ k = 17 ∨ k = 18
          · rw [if_pos hc, rule_fit (h1 hc), hm]
            have := map_rep (refOp k s) (l.map refTy)
            rw [List.length_map] at this
            by_cases hd : ((l.map refTy).all fun t => decide (t = refOp k s)) = true
            · rw [if_pos (this.2 hd), if_pos hd]
            · rw [if_neg (fun e => hd (this.1 e)), if_neg hd]
          · rw [if_neg hc]
            have hr : rule k s = ([], 0) := by
              unfold rule
              rw [if_neg (fun e => hc (.inl e)), if_neg (fun e => hc (.inr (.inl e))), if_neg (fun e => hc (.inr (.inr e)))]
            rw [hr]
            split <;> rfl

/-! ### Generated expressions -/
/-- The number that is drawn at place i, below m. -/
def nxt (L : List Int) (i m : Nat) : Nat :=
  match L[i]? with
  | none => 0
  | some z => (((if z < 0 then -(z + 1) else z) % 1000000007).toNat) % m
theorem nxt_lt (L : List Int) (i : Nat) {m : Nat} (h : 0 < m) : nxt L i m < m := by
  unfold nxt
  split
  · exact h
  · exact Nat.mod_lt _ h
/-- The n-th variable. -/
def vName (n : Nat) : ByteArray := ⟨#[118, UInt8.ofNat (97 + n)]⟩
/-- The built-in names. -/
def bNames : List ByteArray := [⟨#[115, 101, 108, 102]⟩, ⟨#[110, 111, 100, 101, 115]⟩, ⟨#[110, 111, 119]⟩, ⟨#[102, 114, 111, 109]⟩, ⟨#[97]⟩, ⟨#[98]⟩, ⟨#[105, 100]⟩, ⟨#[111, 112]⟩, ⟨#[107, 101, 121]⟩]
def pick (l : List ByteArray) (n : Nat) : ByteArray := l[n]?.getD ⟨#[]⟩
def logic : List ByteArray := [sAnd, sOr]
def compar : List ByteArray := [sLt, sLe, sGt, sGe, sEq, sNe]
def arith : List ByteArray := [sPlus, sMinus, sMul, sDiv]
def eps : ByteArray := ⟨#[]⟩
/-- An operator with two operands of one type. -/
def two (sub : Nat → Nat → Nd × Nat) (s : ByteArray) (t i : Nat) : Nd × Nat :=
  let a := sub t i
  let b := sub t a.2
  (.mk 18 0 s [a.1, b.1], b.2)
def one (sub : Nat → Nat → Nd × Nat) (k : Int) (s : ByteArray) (t i : Nat) : Nd × Nat :=
  let a := sub t i
  (.mk k 0 s [a.1], a.2)
/-- A Bool, by the number k. -/
def genB (L : List Int) (deep : Bool) (sub : Nat → Nat → Nd × Nat) (k i : Nat) : Nd × Nat :=
  if deep = false ∨ k = 0 then (.mk 13 (nxt L i 2) eps [], i + 1)
  else if k = 1 then one sub 17 sNot 2 i
  else if k = 2 then two sub (pick logic (nxt L i 2)) 2 (i + 1)
  else two sub (pick compar (nxt L i 6)) 1 (i + 1)
/-- A leaf of type Int, by the number k. -/
def genL (L : List Int) (k i : Nat) : Nd × Nat :=
  if k % 3 = 0 then (.mk 14 0 (vName (nxt L i 10)) [], i + 1)
  else if k % 3 = 1 then (.mk 15 0 (pick bNames (nxt L i 9)) [], i + 1)
  else (.mk 12 (nxt L i 100) eps [], i + 1)
/-- An Int, by the number k. -/
def genI (L : List Int) (deep : Bool) (sub : Nat → Nat → Nd × Nat) (k i : Nat) : Nd × Nat :=
  if deep = false ∨ k < 2 then genL L k i
  else if k = 2 then one sub 17 sMinus 1 i
  else if k = 3 then one sub 16 eps 1 i
  else two sub (pick arith (nxt L i 4)) 1 (i + 1)
/-- The type that is built: as a rule the one that is asked for. -/
def flip (L : List Int) (want i : Nat) : Nat := if nxt L i 24 = 5 then 3 - want else want
def genF (L : List Int) (deep : Bool) (sub : Nat → Nat → Nd × Nat) (want i : Nat) : Nd × Nat :=
  if flip L want i = 2 then genB L deep sub (nxt L (i + 1) 6) (i + 2) else genI L deep sub (nxt L (i + 1) 6) (i + 2)
/-- An expression of a depth: the tree, and the next place. -/
def genE (L : List Int) : Nat → Nat → Nat → Nd × Nat
  | 0 => genF L false fun _ i => (default, i)
  | d + 1 => genF L true (genE L d)
theorem fit_leaf (k n : Int) (s : ByteArray) (h : ¬ (k = 16 ∨ k = 17 ∨ k = 18)) : Fit (.mk k n s []) := .mk _ _ _ _ (fun e => absurd e h) (fun x hx => by cases hx)
theorem fit_one {sub : Nat → Nat → Nd × Nat} (hs : ∀ t i, Fit (sub t i).1) {k : Int} {s : ByteArray} (h : opOk k s 1) (t i : Nat) : Fit (one sub k s t i).1 :=
  .mk _ _ _ _ (fun _ => h) fun x hx => by rw [List.mem_singleton] at hx; subst hx; exact hs t i
theorem fit_two {sub : Nat → Nat → Nd × Nat} (hs : ∀ t i, Fit (sub t i).1) {s : ByteArray} (h : opOk 18 s 2) (t i : Nat) : Fit (two sub s t i).1 :=
  .mk _ _ _ _ (fun _ => h) fun x hx => by
    rcases List.mem_cons.1 hx with rfl | hx
    · exact hs _ _
    · rw [List.mem_singleton] at hx; subst hx; exact hs _ _
theorem pick_mem {l : List ByteArray} {n : Nat} (h : n < l.length) : pick l n ∈ l := by
  unfold pick
  rw [List.getElem?_eq_getElem h]
  exact List.getElem_mem h
theorem op_two {s : ByteArray} (h : s ∈ logic ∨ s ∈ compar ∨ s ∈ arith) : opOk 18 s 2 := by
  refine .inr (.inr ⟨rfl, rfl, ?_⟩)
  unfold logic compar arith at h
  simp only [List.mem_cons, List.not_mem_nil, or_false] at h ⊢
  rcases h with (h | h) | (h | h | h | h | h | h) | (h | h | h | h) <;> simp [h]
theorem genF_fit (L : List Int) (deep : Bool) {sub : Nat → Nat → Nd × Nat} (hs : ∀ t i, Fit (sub t i).1) (want i : Nat) : Fit (genF L deep sub want i).1 := by
  unfold genF
  split
  · unfold genB
    split
    · exact fit_leaf _ _ _ (by decide)
    · split
      · exact fit_one hs (.inr (.inl ⟨rfl, rfl, .inr rfl⟩)) _ _
      · split
        · exact fit_two hs (op_two (.inl (pick_mem (nxt_lt _ _ (by decide))))) _ _
        · exact fit_two hs (op_two (.inr (.inl (pick_mem (nxt_lt _ _ (by decide)))))) _ _
  · unfold genI
    split
    · unfold genL
      split
      · exact fit_leaf _ _ _ (by decide)
      · split
        · exact fit_leaf _ _ _ (by decide)
        · exact fit_leaf _ _ _ (by decide)
    · split
      · exact fit_one hs (.inr (.inl ⟨rfl, rfl, .inl rfl⟩)) _ _
      · split
        · exact fit_one hs (.inl ⟨rfl, rfl⟩) _ _
        · exact fit_two hs (op_two (.inr (.inr (pick_mem (nxt_lt _ _ (by decide)))))) _ _
theorem genE_fit (L : List Int) : ∀ d want i, Fit (genE L d want i).1
  | 0 => genF_fit L false fun _ _ => fit_leaf _ _ _ (by decide)
  | d + 1 => genF_fit L true (genE_fit L d)
end Go.Proofs.YtlfpaemfhanpiaaGreatDoor.TY
