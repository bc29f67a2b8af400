/-
  The mathematics of disks: cells, pending writes, what applying them gives. No program.
-/
import Derived.Test.YtgdefhlcgmibcaaNum
namespace Go.Proofs.Ytgdefhlcgmibcaa.DK
open Go

/-- A write: a cell and its value. -/
abbrev Wr := Int × Int
/-- A disk. -/
structure Dk where
  cells : List Int
  pend : List Wr
def app1 (cs : List Int) (x : Wr) : List Int := if 0 ≤ x.1 ∧ x.1 < (cs.length : Int) then cs.set x.1.toNat x.2 else cs
def app (cs : List Int) (ws : List Wr) : List Int := ws.foldl app1 cs
def new (k : Nat) : Dk := ⟨List.replicate k 0, []⟩
def view (d : Dk) : List Int := app d.cells d.pend
def full (d : Dk) (c v : Int) : Dk := ⟨app d.cells ((d.pend ++ [(c, v)]).take (d.pend.length + 1 - 4)), (d.pend ++ [(c, v)]).drop (d.pend.length + 1 - 4)⟩
def write (d : Dk) (c v : Int) : Dk := if 0 ≤ c ∧ c < (d.cells.length : Int) then full d c v else d
def sync (d : Dk) : Dk := ⟨view d, []⟩
def kept : List Bool → List Wr → List Wr
  | b :: bs, x :: ws => if b then x :: kept bs ws else kept bs ws
  | _, _ => []
def crash (d : Dk) (keep : List Bool) : Dk := ⟨app d.cells (kept keep d.pend), []⟩
def fit (l : List Int) (k : Nat) : List Int := l.take k ++ List.replicate (k - l.length) 0
def resize (d : Dk) (k : Nat) : Dk := ⟨fit (view d) k, []⟩
/-- A disk as the package's functions give it. -/
structure Ok (d : Dk) : Prop where
  size : d.cells.length ≤ 16
  pend : d.pend.length ≤ 4
  vars : ∀ x ∈ d.pend, 0 ≤ x.1 ∧ x.1 < (d.cells.length : Int)

theorem app1_len (cs : List Int) (x : Wr) : (app1 cs x).length = cs.length := by unfold app1; split <;> simp
theorem app_len : ∀ (ws : List Wr) (cs : List Int), (app cs ws).length = cs.length
  | [], _ => rfl
  | x :: ws, cs => (app_len ws (app1 cs x)).trans (app1_len cs x)
theorem app_cons (cs : List Int) (x : Wr) (ws : List Wr) : app cs (x :: ws) = app (app1 cs x) ws := rfl
theorem app_append (cs : List Int) (l r : List Wr) : app cs (l ++ r) = app (app cs l) r := List.foldl_append ..
theorem app_snoc (cs : List Int) (l : List Wr) (x : Wr) : app cs (l ++ [x]) = app1 (app cs l) x := app_append cs l [x]
theorem app_parts (cs : List Int) (l : List Wr) (k : Nat) : app (app cs (l.take k)) (l.drop k) = app cs l := by rw [← app_append, List.take_append_drop]
theorem view_len (d : Dk) : (view d).length = d.cells.length := app_len _ _
theorem fit_len (l : List Int) (k : Nat) : (fit l k).length = k := by simp [fit]; omega
theorem kept_sub : ∀ (bs : List Bool) (ws : List Wr), ∀ x ∈ kept bs ws, x ∈ ws
  | [], _, x, h => by simp [kept] at h
  | _ :: _, [], x, h => by simp [kept] at h
  | b :: bs, y :: ws, x, h => by
    unfold kept at h
    split at h
    · rcases List.mem_cons.1 h with rfl | h
      · exact List.mem_cons_self
      · exact List.mem_cons_of_mem _ (kept_sub bs ws x h)
    · exact List.mem_cons_of_mem _ (kept_sub bs ws x h)
theorem kept_none' (bs : List Bool) : kept bs [] = [] := by cases bs <;> rfl
theorem kept_len : ∀ (bs : List Bool) (ws : List Wr), (kept bs ws).length ≤ ws.length
  | [], _ => by simp [kept]
  | _ :: _, [] => by simp [kept]
  | b :: bs, y :: ws => by
    have := kept_len bs ws
    unfold kept
    split <;> simp <;> omega
/-- What is kept of the first k + 1. -/
theorem kept_step {bs : List Bool} {ws : List Wr} {k : Nat} {x : Wr} (hx : ws[k]? = some x) : kept bs (ws.take (k + 1)) = kept bs (ws.take k) ++ (if bs[k]?.getD false then [x] else []) := by
  induction k generalizing bs ws with
  | zero =>
    cases ws with
    | nil => simp at hx
    | cons y ws =>
      simp at hx
      subst hx
      cases bs with
      | nil => simp [kept]
      | cons b bs => cases b <;> simp [kept]
  | succ k ih =>
    cases ws with
    | nil => simp at hx
    | cons y ws =>
      simp at hx
      cases bs with
      | nil => simp [kept]
      | cons b bs =>
        have := ih (bs := bs) hx
        simp only [List.take_succ_cons, List.getElem?_cons_succ]
        cases b <;> simp [kept, this]
theorem kept_short {bs : List Bool} {ws : List Wr} {k : Nat} (h : bs.length ≤ k) : kept bs ws = kept bs (ws.take k) := by
  induction k generalizing bs ws with
  | zero =>
    obtain rfl := List.eq_nil_of_length_eq_zero (Nat.le_zero.1 h)
    simp [kept]
  | succ k ih =>
    cases bs with
    | nil => simp [kept]
    | cons b bs =>
      cases ws with
      | nil => simp
      | cons y ws =>
        have := ih (bs := bs) (ws := ws) (by simpa using h)
        simp only [List.take_succ_cons, kept, this]

theorem ok_new (k : Nat) (h : k ≤ 16) : Ok (new k) := ⟨by simpa [new] using h, by simp [new], fun x hx => by simp [new] at hx⟩
theorem ok_sync {d : Dk} (h : Ok d) : Ok (sync d) := ⟨by show (view d).length ≤ 16; rw [view_len]; exact h.size, by simp [sync], fun x hx => by simp [sync] at hx⟩
theorem ok_crash {d : Dk} (bs : List Bool) (h : Ok d) : Ok (crash d bs) := ⟨by show (app _ _).length ≤ 16; rw [app_len]; exact h.size, by simp [crash], fun x hx => by simp [crash] at hx⟩
theorem ok_resize (d : Dk) (k : Nat) (h : k ≤ 16) : Ok (resize d k) := ⟨by show (fit _ _).length ≤ 16; rw [fit_len]; exact h, by simp [resize], fun x hx => by simp [resize] at hx⟩
theorem ok_write {d : Dk} (c v : Int) (h : Ok d) : Ok (write d c v) := by
  unfold write
  split
  · rename_i hc
    refine ⟨by show (app _ _).length ≤ 16; rw [app_len]; exact h.size, by show (List.drop _ _).length ≤ 4; have := h.pend; simp; omega, fun x hx => ?_⟩
    show 0 ≤ x.1 ∧ x.1 < ((app _ _).length : Int)
    rw [app_len]
    rcases List.mem_append.1 (List.mem_of_mem_drop hx) with hx | hx
    · exact h.vars x hx
    · simp at hx
      subst hx
      exact hc
  · exact h
theorem write_len (d : Dk) (c v : Int) : (write d c v).cells.length = d.cells.length := by
  unfold write
  split
  · exact app_len _ _
  · rfl
/-- What a write makes of the view. -/
theorem view_write (d : Dk) (c v : Int) : view (write d c v) = if 0 ≤ c ∧ c < (d.cells.length : Int) then (view d).set c.toNat v else view d := by
  unfold write
  split
  · rename_i h
    show app (app d.cells _) _ = _
    unfold full
    rw [app_parts, app_snoc]
    unfold app1
    rw [app_len, if_pos h]
    rfl
  · rfl
theorem view_sync (d : Dk) : view (sync d) = view d := rfl
theorem crash_sync (d : Dk) (bs : List Bool) : crash (sync d) bs = sync d := by
  cases bs <;> simp [crash, sync, kept, app]
theorem kept_all : ∀ (n : Nat) (ws : List Wr), ws.length ≤ n → kept (List.replicate n true) ws = ws
  | 0, ws, h => by rw [List.eq_nil_of_length_eq_zero (Nat.le_zero.1 h)]; rfl
  | n + 1, [], _ => by simp [List.replicate_succ, kept]
  | n + 1, x :: ws, h => by simp [List.replicate_succ, kept, kept_all n ws (by simpa using h)]
theorem kept_none (ws : List Wr) : kept [] ws = [] := by simp [kept]
/-- Every cell holds what it held, or what a write has written into it. -/
theorem app_why : ∀ (ws : List Wr) (cs : List Int) (i : Nat), (app cs ws)[i]? = cs[i]? ∨ ∃ x ∈ ws, x.1 = (i : Int) ∧ (app cs ws)[i]? = some x.2
  | [], cs, i => .inl rfl
  | x :: ws, cs, i => by
    rw [app_cons]
    rcases app_why ws (app1 cs x) i with h | ⟨y, hy, h⟩
    · rw [h]
      unfold app1
      split
      · rename_i hr
        by_cases he : x.1.toNat = i
        · refine .inr ⟨x, List.mem_cons_self, by omega, ?_⟩
          rw [List.getElem?_set, if_pos he, if_pos (by omega)]
        · rw [List.getElem?_set_ne he]
          exact .inl rfl
      · exact .inl rfl
    · exact .inr ⟨y, List.mem_cons_of_mem _ hy, h⟩
theorem resize_same (d : Dk) : resize d d.cells.length = sync d := by
  unfold resize sync fit
  have := view_len d
  rw [List.take_of_length_le (by omega), this, Nat.sub_self, List.replicate_zero, List.append_nil]
theorem fit_get (l : List Int) (k i : Nat) (h : i < k) : (fit l k)[i]? = some (if i < l.length then l[i]?.getD 0 else 0) := by
  unfold fit
  by_cases hi : i < l.length
  · rw [List.getElem?_append_left (by simp; omega), List.getElem?_take, if_pos h, if_pos hi, List.getElem?_eq_getElem hi]
    rfl
  · rw [List.getElem?_append_right (by simp; omega), if_neg hi, List.getElem?_replicate, if_pos (by simp; omega)]

/-! ### Operations made from numbers -/
structure Op where
  op : Int
  cell : Int
  value : Int
  keep : List Bool
def bitsOf (n : Int) : Nat → List Bool
  | 0 => []
  | k + 1 => bitsOf n k ++ [(n / 1000 / 2 ^ k).tmod 2 == 1]
def opOf (n : Int) : Op :=
  if n % 16 = 0 then ⟨1, n / 16 % 7 - 1, n / 112 % 9 - 4, []⟩
  else if n % 16 = 1 ∨ n % 16 = 2 then ⟨2, n / 16 % 7 - 1, n / 112 % 9 - 4, bitsOf n (n / 16 % 6).toNat⟩
  else if n % 16 = 3 then ⟨3, n / 16 % 17, n / 112 % 9 - 4, []⟩
  else ⟨0, n / 16 % 7 - 1, n / 112 % 9 - 4, []⟩
def step (d : Dk) (o : Op) : Dk :=
  if o.op = 1 then sync d else if o.op = 2 then crash d o.keep else if o.op = 3 then resize d o.cell.toNat else write d o.cell o.value
structure OpOk (o : Op) : Prop where
  op : 0 ≤ o.op ∧ o.op ≤ 3
  cell : o.op = 3 → 0 ≤ o.cell ∧ o.cell ≤ 16
  small : -1 ≤ o.cell ∧ o.cell ≤ 16
  value : -4 ≤ o.value ∧ o.value ≤ 4
  keep : o.keep.length ≤ 5
theorem bits_len (n : Int) : ∀ k, (bitsOf n k).length = k
  | 0 => rfl
  | k + 1 => by simp [bitsOf, bits_len n k]
theorem opOf_ok (n : Int) : OpOk (opOf n) := by
  unfold opOf
  split
  · exact ⟨by simp, fun h => by simp at h, by simp; omega, by simp; omega, by simp⟩
  · split
    · exact ⟨by simp, fun h => by simp at h, by simp; omega, by simp; omega, by simp [bits_len]; omega⟩
    · split
      · exact ⟨by simp, fun _ => by simp; omega, by simp; omega, by simp; omega, by simp⟩
      · exact ⟨by simp, fun h => by simp at h, by simp; omega, by simp; omega, by simp⟩
theorem ok_step {d : Dk} {o : Op} (h : Ok d) (ho : OpOk o) : Ok (step d o) := by
  unfold step
  split
  · exact ok_sync h
  · split
    · exact ok_crash _ h
    · split
      · rename_i h3
        have := ho.cell h3
        exact ok_resize _ _ (by omega)
      · exact ok_write _ _ h
def steps (d : Dk) (l : List Op) : Dk := l.foldl step d
theorem ok_steps : ∀ {l : List Op} {d : Dk}, Ok d → (∀ o ∈ l, OpOk o) → Ok (steps d l)
  | [], _, h, _ => h
  | o :: l, _, h, ho => ok_steps (l := l) (ok_step h (ho o List.mem_cons_self)) fun x hx => ho x (List.mem_cons_of_mem _ hx)
theorem steps_snoc (d : Dk) (l : List Op) (o : Op) : steps d (l ++ [o]) = step (steps d l) o := by simp [steps]
end Go.Proofs.Ytgdefhlcgmibcaa.DK
