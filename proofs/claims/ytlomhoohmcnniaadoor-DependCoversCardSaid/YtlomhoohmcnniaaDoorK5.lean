/-
  The numbers of events and questions, their orders, what the generators make. Plain mathematics; no function of the program.
-/

namespace Go.Proofs.YtlomhoohmcnniaaDoor.NM

/-- The numbers of a message: node, handler and count of the cause; index and copy. -/
structure Ms where
  c : Int
  h : Int
  t : Int
  i : Int
  p : Int
deriving DecidableEq
/-- The numbers of an event. -/
structure Ev where
  k : Int
  n : Int
  a : Int
  m : Ms
deriving DecidableEq
/-- The numbers of a question. -/
structure Qu where
  c : Int
  h : Int
  t : Int
  k : Int
  i : Int
deriving DecidableEq
def m0 : Ms := ⟨0, 0, 0, 0, 0⟩
def e0 : Ev := ⟨0, 0, 0, m0⟩
def q0 : Qu := ⟨0, 0, 0, 0, 0⟩

/-! ### Orders -/
def cmpI (a b : Int) : Int := if a < b then -1 else if b < a then 1 else 0
def orI (x y : Int) : Int := if x = 0 then y else x
def lexL : List Int → List Int → Int
  | [], [] => 0
  | [], _ :: _ => -1
  | _ :: _, [] => 1
  | a :: l, b :: r => orI (cmpI a b) (lexL l r)
def msL (m : Ms) : List Int := [m.c, m.h, m.t, m.i, m.p]
def evL (e : Ev) : List Int := [e.k, e.n, e.a] ++ msL e.m
def quL (q : Qu) : List Int := [q.c, q.h, q.t, q.k, q.i]

def argK (k : Int) : Bool := k == 1 || k == 2 || k == 4
def msgK (k : Int) : Bool := k == 3 || k == 5 || k == 6
def arI (n m : Int) : Int := (if n < 0 then -(n + 1) else n) % m
theorem arI_in (n m : Int) (hm : 0 < m) : 0 ≤ arI n m ∧ arI n m < m := ⟨Int.emod_nonneg _ (by omega), Int.emod_lt_of_pos _ hm⟩
def smallK (k : Int) : Int := if k % 40 = 39 then 2147483647 - k / 40 % 2 else k / 40 % 4
def smallN (n : Int) : Int := smallK (arI n 1000000)
def evK (k m : Int) : Ev := ⟨1 + k % 7, k / 7 % 12, if argK (1 + k % 7) then smallN m else 0,
  if msgK (1 + k % 7) then ⟨arI m 1000000000 % 12, arI m 1000000000 / 12 % 40, smallN (arI m 1000000000 / 480), smallN (k / 84), smallN (k / 336)⟩ else m0⟩
def evOf (n m : Int) : Ev := evK (arI n 1000000000) m
def quK (k m : Int) : Qu := ⟨arI m 1000000000 % 12, if 1 + k % 3 = 3 then 40 else arI m 1000000000 / 12 % 40, smallN (arI m 1000000000 / 480), 1 + k % 3, smallN (k / 3)⟩
def quOf (n m : Int) : Qu := quK (arI n 1000000000) m
end Go.Proofs.YtlomhoohmcnniaaDoor.NM
