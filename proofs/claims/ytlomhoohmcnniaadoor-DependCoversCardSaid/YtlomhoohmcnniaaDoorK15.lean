/-
  set.members hands back an iterator over the set's elements, in order. Conditions: the elements are less than n, at most 14; the library's table lies as it lay.
  The contracts of frontier.take and frontier.putBack, as steps on the counts and the bits. Conditions: the elements are less than n, at most 14; the library's table lies as it lay.
  The marks that loops over functions leave in a function's list of deferred calls: how the function leaves with some of them. No function of the program.
  The contract of set.first: the smallest element, if there is one. Conditions as for members.
-/
import Derived.RangeFuncNested
import Derived.RangeFuncBound
import Derived.RangeFuncCalls
import Derived.RangeFuncLeaves
import Derived.RangeFuncBox
import Derived.Shelf.Abstract
import Derived.Shelf.RegionOpen
import Derived.WalkKit
import Derived.OwnWalkIn
import Derived.TacticsInMore
import Derived.LoopNIn
import Derived.LoopIn
import Derived.Test.YtlomhoohmcnniaaDoorK13

namespace Go.Proofs.YtlomhoohmcnniaaDoor
open Go Go.RowKit Go.Proofs Go.Shelf
attribute [local go_sem] Oper.semAt_some

/-- The blocks of X lie as they lay, and no block has gone. -/
def Keeps (X : Nat → Prop) (W W' : World) : Prop := W.heap.size ≤ W'.heap.size ∧ ∀ k, X k → W'.heap[k]? = W.heap[k]?
theorem Keeps.refl (X : Nat → Prop) (W : World) : Keeps X W W := ⟨Nat.le_refl _, fun _ _ => rfl⟩
theorem Keeps.trans {X : Nat → Prop} {A B C : World} (h : Keeps X A B) (k : Keeps X B C) : Keeps X A C := ⟨Nat.le_trans h.1 k.1, fun i hi => (k.2 i hi).trans (h.2 i hi)⟩
theorem Keeps.cell {X : Nat → Prop} {A B : World} (h : Keeps X A B) {b o : Nat} (hb : X b) : B.cell? ⟨b, o, none⟩ = A.cell? ⟨b, o, none⟩ := World.cell?_of_block (w := A) (h.2 b hb)
theorem Keeps.putObj {X : Nat → Prop} {m : Nat} (hX : ∀ k, X k → k < m) (W : World) (l : Nat) (o o' : Obj) (hl : m ≤ l) (_ : W.heap[l]? = some o) : Keeps X W (W.putObj l o') :=
  ⟨by simp, fun k hk => World.putObj_heap_other (by have := hX k hk; omega)⟩
theorem Keeps.setCell {X : Nat → Prop} {A W : World} (h : Keeps X A W) {b o : Nat} (hb : ¬ X b) (u : Value) : Keeps X A (W.setCell ⟨b, o, none⟩ u) :=
  h.trans ⟨by simp [World.setCell], fun k hk => Below.heap_setCell _ _ _ _ (by rintro rfl; exact hb hk)⟩
theorem Keeps.drewN {X : Nat → Prop} {A W : World} (h : Keeps X A W) (n : Nat) : Keeps X A (W.drewN n) := ⟨h.1, h.2⟩
theorem Keeps.drew {X : Nat → Prop} {A W : World} (h : Keeps X A W) : Keeps X A W.drew := ⟨h.1, h.2⟩

set_option maxHeartbeats 400000 in
theorem members_any (A : Option Addr) (n c : Nat) (w : World) :
    Calls Tryd.prog 45 #[.slice A n c] w fun e w' => e = .returned (.func (.func 56) #[] #[.pointer (some ⟨w.heap.size, 0, none⟩)]) ∧ w' = w.alloc (.cells #[.slice A n c] 67) := by
  go_enter Tryd.func45, Tryd.ntmps45
  go_wp2
  go_ret
  exact ⟨rfl, rfl⟩
theorem cell_lt {w : World} {p : Addr} {v : Value} (h : w.cell? p = some v) : p.block < w.heap.size := by
  rcases Nat.lt_or_ge p.block w.heap.size with h1 | h1
  · exact h1
  · simp [World.cell?, Array.getElem?_eq_none h1] at h
theorem Tab.lt {w : World} (h : Tab w) : 0 < w.heap.size := cell_lt (h 0 (by omega))
theorem Tab.below {w W : World} {B : Nat} (h : Tab w) (hB : 0 < B) (hb : Below B w W) : Tab W := h.keep (hb.block _ hB)
theorem sub_len8 {m n : Nat} (hm : m < 2 ^ n) (hn : n ≤ 14) : (PO.els m).length ≤ 14 := by
  have := nodup_len 14 (PO.els m) ((PO.els_sorted m).imp fun h => Nat.ne_of_lt h) (fun x hx => by have := PO.els_lt hm hx; omega)
  exact this
/-- An element, as an argument of the loop's body. -/
abbrev El (n : Nat) := { x : Nat // x < n }
def elA {n : Nat} (x : El n) : Array Value := #[.int .i64 (x.1 : Int)]
theorem low_int {m : Nat} (h0 : m ≠ 0) (hm : m < 16384) : bits BinOp.and IntKind.u64 (m : Int) ((m : Int) - 1) = ((PO.low m : Nat) : Int) := by
  have e : (m : Int) - 1 = ((m - 1 : Nat) : Int) := by omega
  rw [e]
  exact po_and m (m - 1) (by omega) (by omega)
set_option maxRecDepth 100000 in
set_option maxHeartbeats 4000000 in
theorem members1_in (N : Nat) (hN : 3 ≤ N) (l Bs n k g m : Nat) (X : Nat → Prop) (hX : X 0) (hm : m < 2 ^ n) (hn : n ≤ 14) (J Jx : List (El n) → World → Prop)
    (hY : ∀ pre x W, J pre W → pre.length < 14 → YieldAt Fence.wide (N - 1) Tryd.prog l (elA x) W fun e W' =>
      (e = .returned (.bool true) ∧ J (pre ++ [x]) W' ∧ Keeps X W W') ∨ (e = .returned (.bool false) ∧ Jx (pre ++ [x]) W'))
    (W : World) (hT : Tab W) (hBs : W.cell? ⟨Bs, 0, none⟩ = some (.slice (some ⟨g, 0, none⟩) k k)) (hg : Sw W k g m) (h0 : J [] W) :
    CallsIn Fence.wide N Tryd.prog 56 #[.func (.yield l) #[] #[], .pointer (some ⟨Bs, 0, none⟩)] W fun e W' => (∃ v, e = .returned v) ∧
      ((∃ ys : List (El n), ys.map Subtype.val = PO.els m ∧ J ys W') ∨ (∃ pre : List (El n), pre.map Subtype.val <+: PO.els m ∧ Jx pre W')) := by
  have hm8 : m < 16384 := Nat.lt_of_lt_of_le hm (Nat.pow_le_pow_right (by omega) hn)
  have hk1 := hg.1
  have hk0 := hg.2.1
  refine callsIn_of_wp Tryd.func56 rfl trivial ?_ rfl
  simp only [Tryd.ntmps56, List.size_toArray, List.length_cons, List.length_nil, Nat.reduceAdd, Nat.reduceSub, Array.replicate_succ, Array.replicate_zero, List.push_toArray, List.append_toArray, List.nil_append, List.cons_append]
  gi_wp2
  gi_loopw [7] (fun i wr => (i = .int .i64 0 ∧ wr = W) ∨ (i = .int .i64 1 ∧ ∃ ys : List (El n), Hid (ys.map Subtype.val = PO.els m) ∧ Hid (J ys wr))) (fun i _ => 1 - (intOf i).toNat)
  case atStart => exact .inl ⟨rfl, rfl⟩
  case round =>
    rcases hrel with ⟨rfl, rfl⟩ | ⟨rfl, ys, hys, hj⟩
    · rcases Nat.eq_zero_or_pos k with hk | hk
      · subst hk
        have HZ := Lib.hid (hk0 rfl)
        clear hk0
        gi_wp2
        go_end0
        exact ⟨⟨_, rfl⟩, .inl ⟨[], by rw [HZ.out]; rfl, h0⟩⟩
      · obtain rfl : k = 1 := by omega
        have hcg := hg.cell
        have H0 := Lib.hid h0
        clear hk0 h0
        rw [show ((1 : Nat) : Int) = 1 from rfl]
        gi_wp2
        gi_loopw [4] (fun x V => ∃ (pre : List (El n)) (r : Nat), x = .int .u64 (r : Int) ∧ r < 16384 ∧ Hid (pre.map Subtype.val ++ PO.els r = PO.els m) ∧ Hid (J pre V) ∧ Hid (Tab V)) (fun x _ => (intOf x).toNat)
        case atStart => exact ⟨[], m, rfl, hm8, (show ([] : List (El n)).map Subtype.val ++ PO.els m = PO.els m from rfl), H0.out, hT⟩
        case round =>
          obtain ⟨pre, r, rfl, hr8, hpre, hj, htab⟩ := hrel
          by_cases hr : r = 0
          · subst hr
            have HJ := Lib.hid (show pre.map Subtype.val = PO.els m by have := hpre.out; rw [PO.els_zero, List.append_nil] at this; exact this)
            clear hpre
            gi_wp2
            go_roundw
            case rel => exact .inr ⟨rfl, pre, HJ.out, hj.out⟩
            case measure => simp [intOf]
          · have hne : ((r : Int) != 0) = true := by simp; omega
            obtain ⟨h1, h2⟩ := PO.els_low hr hr8
            have hlow := low_int hr hr8
            have HTZ := Lib.hid (tz_any r (by omega) (by omega) wr htab.out)
            rw [show tz r = PO.tz_ r from rfl] at HTZ
            obtain ⟨x, hx⟩ : ∃ x, PO.tz_ r = x := ⟨_, rfl⟩
            obtain ⟨q, hq⟩ : ∃ q, PO.low r = q := ⟨_, rfl⟩
            rw [hx] at h1 HTZ
            rw [hq] at h1 h2 hlow
            have hxm : x ∈ PO.els m := by rw [← hpre.out, h1]; simp
            have hxn := PO.els_lt hm hxm
            have hlen : pre.length < 14 := by
              have h3 := sub_len8 hm hn
              have h4 := congrArg List.length hpre.out
              rw [h1, List.length_append, List.length_map, List.length_cons] at h4
              omega
            have hYx := hY pre ⟨x, hxn⟩ wr hj.out hlen
            have hpre2 := hpre.out
            rw [h1] at hpre2
            have HP := Lib.hid hpre2
            have hx0 : (0 : Int) + (x : Int) = (x : Int) := by omega
            obtain ⟨fn, tmps, assign, body, hy, hR⟩ := hYx
            unfold elA at hy
            dsimp only at hy
            have HR := Lib.hid hr
            have HPP := Lib.hid (show (pre ++ [(⟨x, hxn⟩ : El n)]).map Subtype.val ++ PO.els q = PO.els m by rw [List.map_append, List.append_assoc]; exact hpre2)
            clear hY hpre hpre2 h1 hxm hx hq hr hlen
            gi_wp2_with (refine ⟨trivial, fun _ => by omega, ?_⟩; gi_at_call 57; refine (callsIn_wide.2 HTZ.out).mono ?_; rintro e w' ⟨rfl, rfl⟩)
            all_goals
              refine ⟨fun _ => by omega, hR.mono ?_⟩
              rintro e W3 (⟨rfl, hJ3, hk3⟩ | ⟨rfl, hJx3⟩)
            · gi_wp2
              go_roundw
              case rel => exact ⟨_, q, rfl, by omega, HPP.out, hJ3, htab.out.keep (hk3.2 _ hX)⟩
              case measure => simp [intOf]; omega
            · gi_wp2
              refine bodyPost_ret (results_none rfl _ _ _) rfl ?_
              exact ⟨⟨_, rfl⟩, .inr ⟨_, ⟨PO.els q, HPP.out⟩, hJx3⟩⟩
    · gi_wp2
      go_end0
      exact ⟨⟨_, rfl⟩, .inl ⟨ys, hys.out, hj.out⟩⟩

/-- **set.members gives the set's elements, in order.** -/
theorem members_stops (N : Nat) (hN : 3 ≤ N) (Bs n k g m : Nat) (X : Nat → Prop) (hX : X 0) (hm : m < 2 ^ n) (hn : n ≤ 14) (w : World) (hT : Tab w) (hBs : w.cell? ⟨Bs, 0, none⟩ = some (.slice (some ⟨g, 0, none⟩) k k)) (hg : Sw w k g m) :
    SeqStopsK Fence.wide N Tryd.prog 56 #[.pointer (some ⟨Bs, 0, none⟩)] (elA (n := n)) (Keeps X) (fun ys => ys.map Subtype.val = PO.els m) (fun pre => pre.map Subtype.val <+: PO.els m) 14 w :=
  fun l J Jx W hW _ _ hY h0 => members1_in N hN l Bs n k g m X hX hm hn J Jx hY W (hT.keep (hW.block _ hT.lt)) ((hW.cell (cell_lt hBs)).trans hBs) (hg.keep (hW.block _ hg.lt)) h0
end Go.Proofs.YtlomhoohmcnniaaDoor

namespace Go.Proofs.YtlomhoohmcnniaaDoor
open Go Go.RowKit Go.Proofs Go.Shelf
attribute [local go_sem] Oper.semAt_some

/-- A block of cells abides what the loop's book-keeping turns. -/
theorem block_own {b : Nat} {X Y : World} {row : Option Nat} {C : Array Value} {t : TypeId} {fr : Nat × Nat} (h : X.heap[b]? = some (.cells C t fr)) (hg : X.grownBy Y row) (hr : ∀ r, row = some r → ∃ o : Obj, X.heap[r]? = some o ∧ o.isCells = false) : Y.heap[b]? = some (.cells C t fr) := by
  rw [hg.block b (heap_lt h) ?_]
  · exact h
  · intro e
    obtain ⟨o, ho, hc⟩ := hr b e.symm
    rw [h] at ho
    injection ho with ho
    subst ho
    cases hc
theorem Sw.own {X Y : World} {k g m : Nat} {row : Option Nat} (h : Sw X k g m) (hg : X.grownBy Y row) (hr : ∀ r, row = some r → ∃ o : Obj, X.heap[r]? = some o ∧ o.isCells = false) : Sw Y k g m := ⟨h.1, h.2.1, block_own h.2.2 hg hr⟩
theorem Fr.own {X Y : World} {lo gf ga n gw gr k m : Nat} {F : Nat → Int} {row : Option Nat} (h : Fr X lo gf ga n gw gr k F m) (hg : X.grownBy Y row) (hr : ∀ r, row = some r → ∃ o : Obj, X.heap[r]? = some o ∧ o.isCells = false) : Fr Y lo gf ga n gw gr k F m :=
  ⟨block_own h.fr hg hr, block_own h.wt hg hr, h.rd.own hg hr, h.l1, h.l2, h.l3⟩
theorem deferred_row {W : World} {D : Nat} {ds : Option (List Deferred)} (hK : W.heap[D]? = some (.deferred ds)) : ∀ r, some D = some r → ∃ o : Obj, W.heap[r]? = some o ∧ o.isCells = false := fun r e => by
  injection e with e
  subst e
  exact ⟨_, hK, rfl⟩
theorem Chg.own {S : Nat → Prop} {B : Nat} {w X Y : World} {row : Option Nat} (h : Chg S w X) (hB : w.heap.size ≤ B) (hg : X.grownBy Y row) (hr : ∀ r, row = some r → B ≤ r) : Chg S w Y :=
  h.grown hg fun k e hk => by have := hr k e; omega
theorem Chg.put {S : Nat → Prop} {w W : World} {D : Nat} (h : Chg S w W) (hD : w.heap.size ≤ D) (o : Obj) : Chg S w (W.putObj D o) :=
  h.grown (grownBy_putObj' W D o) fun k e hk => by
    injection e with e
    omega
/-- The state of a loop over a set's members. -/
structure FrJ (w : World) (lo gf ga n gw gr bx : Nat) (B : Int) (s : PO.FS) (W : World) : Prop where
  fr : Fr W lo gf ga n gw gr 1 s.1 s.2
  bd : ∀ y, -B ≤ s.1 y ∧ s.1 y ≤ B
  lt : s.2 < 2 ^ n
  box : Boxed W bx 97 (.pointer (some ⟨gf, 0, none⟩))
  chg : Chg (fun b => b = gw ∨ b = gr) w W
theorem FrJ.own {w X Y : World} {lo gf ga n gw gr bx D : Nat} {B : Int} {s : PO.FS} {row : Option Nat} (h : FrJ w lo gf ga n gw gr bx B s X) (hD : w.heap.size ≤ D) (hg : X.grownBy Y row) (hr : ∀ r, row = some r → D ≤ r ∧ ∃ o : Obj, X.heap[r]? = some o ∧ o.isCells = false) : FrJ w lo gf ga n gw gr bx B s Y :=
  ⟨h.fr.own hg fun r e => (hr r e).2, h.bd, h.lt, block_own h.box hg fun r e => (hr r e).2, h.chg.own hD hg fun r e => (hr r e).1⟩
def vals {n : Nat} (l : List (El n)) : List Nat := l.map Subtype.val
theorem vals_snoc {n : Nat} (l : List (El n)) (x : El n) : vals (l ++ [x]) = vals l ++ [x.1] := by simp [vals]

set_option maxRecDepth 100000 in
set_option maxHeartbeats 4000000 in
theorem take_in (N : Nat) (hN : 6 ≤ N) (lo hi gf ga n gw gr m a : Nat) (F : Nat → Int) (ws R : List Nat) (w : World) (hT : Tab w) (hn : n ≤ 14) (hR : R.length = n) (hs : PO.Small R) (hA : Ab w hi ga ws R) (hF : Fr w lo gf ga n gw gr 1 F m) (hlo : hi ≤ lo) (ht : 0 < lo) (hb : ∀ y, -100 ≤ F y ∧ F y ≤ 100) (hm : m < 2 ^ n) (ha : a < n) :
    CallsIn Fence.wide N Tryd.prog 60 #[.pointer (some ⟨gf, 0, none⟩), .int .i64 (a : Int)] w fun e w' => (∃ v, e = .returned v) ∧
      Fr w' lo gf ga n gw gr 1 ((PO.els (PO.rw_ R a)).foldl PO.stT (F, m ^^^ (m &&& 2 ^ a))).1 ((PO.els (PO.rw_ R a)).foldl PO.stT (F, m ^^^ (m &&& 2 ^ a))).2 ∧ Chg (fun b => b = gw ∨ b = gr) w w' := by
  have h1 : 1 ≤ N := by omega
  have hm8 : m < 16384 := lt256 hm hn
  obtain ⟨g, hgw, hcg, hsg, hgh⟩ := hA.at_ (i := a) (by omega)
  have hRm := PO.rw_lt hs.2 a
  have hRm8 : PO.rw_ R a < 16384 := lt256 hRm (by omega)
  have hb1 := (Below.refl w.heap.size w).alloc (Nat.le_refl _) (.cells #[.pointer (some ⟨gf, 0, none⟩)] 97)
  have hF1 := hF.below hb1
  have hA1 := hA.below (hb1.mono (by have := hF.l1; have := hF.lt1; omega))
  have hbx := Boxed.new w 97 (.pointer (some ⟨gf, 0, none⟩))
  have c2 := hF1.c2
  have HREM := Lib.hid (remove_any gr m a _ hF1.rd (by omega) hm8)
  refine callsIn_of_wp_marks Tryd.func60 rfl trivial ?_ rfl
  simp only [Tryd.ntmps60, List.size_toArray, List.length_cons, List.length_nil, Nat.reduceAdd, Nat.reduceSub, Array.replicate_succ, Array.replicate_zero, List.push_toArray, List.append_toArray, List.nil_append, List.cons_append]
  have hgr0 := hF.lt3
  have hgw0 := hF.lt2
  have hbR : gr ≠ w.heap.size := by omega
  have hF2 := hF1.setr (m ^^^ (m &&& 2 ^ a))
  have hA2 := hA1.below ((Below.refl _ _).setCell (p := ⟨gr, 0, none⟩) (show hi ≤ gr by have := hF.l3; omega) (.int .u64 ((m ^^^ (m &&& 2 ^ a) : Nat) : Int)))
  have hbx2 : Boxed (((w.alloc (.cells #[.pointer (some ⟨gf, 0, none⟩)] 97)).setCell ⟨gr, 0, none⟩ (.int .u64 ((m ^^^ (m &&& 2 ^ a) : Nat) : Int))).drew) w.heap.size 97 (.pointer (some ⟨gf, 0, none⟩)) := (Below.heap_setCell _ ⟨gr, 0, none⟩ _ w.heap.size (Ne.symm hbR)).trans hbx
  have hch2 : Chg (fun b => b = gw ∨ b = gr) w (((w.alloc (.cells #[.pointer (some ⟨gf, 0, none⟩)] 97)).setCell ⟨gr, 0, none⟩ (.int .u64 ((m ^^^ (m &&& 2 ^ a) : Nat) : Int))).drew) := (((Chg.refl _ w).alloc _).setCell (fun _ => .inr rfl) _).drew
  have hT2 : Tab (((w.alloc (.cells #[.pointer (some ⟨gf, 0, none⟩)] 97)).setCell ⟨gr, 0, none⟩ (.int .u64 ((m ^^^ (m &&& 2 ^ a) : Nat) : Int))).drew) := (hT.below ht (hb1.mono (by have := hF.l1; have := hF.lt1; omega))).keep (Below.heap_setCell _ ⟨gr, 0, none⟩ _ _ (show 0 ≠ gr by have := hF.l3; omega))
  have hsz2 : (((w.alloc (.cells #[.pointer (some ⟨gf, 0, none⟩)] 97)).setCell ⟨gr, 0, none⟩ (.int .u64 ((m ^^^ (m &&& 2 ^ a) : Nat) : Int))).drew).heap.size = w.heap.size + 1 := by simp [World.setCell, World.drew]
  obtain ⟨w2, hw2⟩ : ∃ W, ((w.alloc (.cells #[.pointer (some ⟨gf, 0, none⟩)] 97)).setCell ⟨gr, 0, none⟩ (.int .u64 ((m ^^^ (m &&& 2 ^ a) : Nat) : Int))).drew = W := ⟨_, rfl⟩
  have hF2 : Fr w2 lo gf ga n gw gr 1 F (m ^^^ (m &&& 2 ^ a)) := by rw [← hw2]; exact hF2.keep rfl rfl rfl
  have hA2 : Ab w2 hi ga ws R := by rw [← hw2]; exact hA2.below ((Below.refl hi _).drew)
  rw [hw2] at hbx2 hch2 hT2 hsz2
  have hbc := hbx2.cell
  have c20 := hF2.c0
  obtain ⟨g, hgw, hcg, hsg, hgh⟩ := hA2.at_ (i := a) (by omega)
  have HF2 := Lib.hid hF2
  have HS := Lib.hid hsg
  have HT2 := Lib.hid hT2
  have HC2 := Lib.hid hch2
  have HBX := Lib.hid hbx2
  have HW2 := Lib.hid hw2
  clear hF1 hA1 hbx hb1 hF hA hF2 hA2 hw2 hch2 hT2 hsg hT
  gi_wp2_with (first
    | ((first | refine ⟨trivial, fun _ => by omega, ?_⟩ | refine ⟨trivial, ?_⟩)
       gi_at_call 65
       refine (callsIn_wide.2 HREM.out).mono ?_
       rintro e w' ⟨⟨v, rfl⟩, e'⟩
       rw [HW2.out] at e'
       subst e')
    | ((first | refine ⟨trivial, fun _ => by omega, ?_⟩ | refine ⟨trivial, ?_⟩)
       gi_at_call 45
       refine (callsIn_wide.2 (members_any _ _ _ _)).mono ?_
       rintro e w' ⟨rfl, rfl⟩))
  obtain ⟨w2, hww⟩ : ∃ W, W = w' := ⟨_, rfl⟩
  subst hww
  obtain ⟨W0, hW0⟩ : ∃ W0, w2.alloc (.cells #[.slice (some ⟨g, 0, none⟩) 1 1] 67) = W0 := ⟨_, rfl⟩
  have hb0 : Below w2.heap.size w2 W0 := by rw [← hW0]; exact (Below.refl _ _).alloc (Nat.le_refl _) _
  have hsz : W0.heap.size = w.heap.size + 2 := by rw [← hW0]; simp [hsz2]
  have cB : W0.cell? ⟨w.heap.size + 1, 0, none⟩ = some (.slice (some ⟨g, 0, none⟩) 1 1) := by rw [← hW0, ← hsz2]; exact (Boxed.new w2 67 _).cell
  have hJ0 : FrJ w lo gf ga n gw gr w.heap.size 100 (F, m ^^^ (m &&& 2 ^ a)) W0 := ⟨HF2.out.below hb0, hb, PO.clear_lt hm, (hb0.block _ (by omega)).trans HBX.out, HC2.out.new hb0⟩
  have hT0 := HT2.out.below HT2.out.lt hb0
  have hS0 := HS.out.below HS.out.lt hb0
  have hgr := HF2.out.lt3
  have hgw2 := HF2.out.lt2
  have hl1 := HF2.out.l1
  have hl2 := HF2.out.l2
  have hl3 := HF2.out.l3
  have hnw := HF2.out.ne3
  rw [hW0]
  clear hW0 c2 c20 hbc hcg HREM HS HT2 HC2 HBX HW2 HF2 hb0 hsg
  refine wpIn_rangeFunc_ownG rfl h1 (gf := 56) (lb := #[.pointer (some ⟨w.heap.size + 1, 0, none⟩)]) rfl trivial (enters_of Tryd.func56 (by kernel_rfl) rfl)
    (members_stops (N - 1) (by omega) (w.heap.size + 1) n 1 g (PO.rw_ R a) (fun k => k = 0 ∨ k = w.heap.size + 1 ∨ k = g) (.inl rfl) (by rw [← hR]; exact hRm) hn W0 hT0 cB hS0)
    (fun h k => Keeps.trans h k) (fun W l o o' hl h _ _ => Keeps.putObj (m := W0.heap.size) (by rintro k (rfl | rfl | rfl) <;> omega) W l o o' hl h) (Below.refl _ _) (fun _ => rfl)
    (fun pre W => FrJ w lo gf ga n gw gr w.heap.size (100 + pre.length) ((vals pre).foldl PO.stT (F, m ^^^ (m &&& 2 ^ a))) W)
    (fun _ _ _ => False)
    (fun pre X Y row hJ hg hr => hJ.own (by omega) hg hr)
    (fun _ _ _ _ _ hs _ _ => hs)
    hJ0
    (fun x => { tmps := #[Value.pointer (some ⟨gf, 0, none⟩), Value.int IntKind.i64 a, Value.pointer (some ⟨w.heap.size, 0, none⟩), undef, .int .i64 (x.1 : Int), Value.pointer (some ⟨gf, 0, none⟩), Value.pointer (some ⟨gf, 0, none⟩), Value.pointer (some ⟨gf, 2, none⟩), Value.slice (some ⟨gr, 0, none⟩) 1 1, Value.int IntKind.i64 a, v, Value.pointer (some ⟨gf, 0, none⟩), Value.pointer (some ⟨gf, 0, none⟩), Value.pointer (some ⟨gf, 0, none⟩), Value.slice (some ⟨ga, 0, none⟩) n n, Value.int IntKind.i64 a, Value.pointer (some ⟨ga, a, none⟩), Value.slice (some ⟨g, 0, none⟩) 1 1, Value.func (Fn.func 56) #[] #[Value.pointer (some ⟨w.heap.size + 1, 0, none⟩)], .int .i64 (x.1 : Int), undef, undef, undef, undef, undef, undef, undef, undef, undef, undef, undef, undef, undef, undef, undef, undef, undef, undef, undef, undef, undef, undef, undef], defers := [] }) ?assign ?body ?done ?stop
  case assign =>
    intro l x W K hK
    unfold elA
    gi_wp2
    exact hK
  case body =>
    rintro l pre ⟨x, hx⟩ W hJ hlen
    obtain ⟨s, hs'⟩ : ∃ s, (vals pre).foldl PO.stT (F, m ^^^ (m &&& 2 ^ a)) = s := ⟨_, rfl⟩
    have hnext : (vals (pre ++ [(⟨x, hx⟩ : El n)])).foldl PO.stT (F, m ^^^ (m &&& 2 ^ a)) = PO.stT s x := by rw [vals_snoc, PO.foldl_snoc, hs']
    have hJ : FrJ w lo gf ga n gw gr w.heap.size (100 + pre.length) s W := by rw [← hs']; exact hJ
    have hbx0 := hJ.box.cell
    have c1 := hJ.fr.c1
    have cw := hJ.fr.cw hx
    have fw := hJ.fr.fw x
    have hbd := hJ.bd x
    obtain ⟨z, hz⟩ : ∃ z, s.1 x = z := ⟨_, rfl⟩
    rw [hz] at cw hbd
    have hz1 := hbd.1
    have hz2 := hbd.2
    clear hbd
    have hF1 := hJ.fr.setw x (z - 1)
    have hbx1 : Boxed (W.setCell ⟨gw, x, none⟩ (.int .i64 (z - 1))) w.heap.size 97 (.pointer (some ⟨gf, 0, none⟩)) := (Below.heap_setCell _ ⟨gw, x, none⟩ _ w.heap.size (show w.heap.size ≠ gw by have := hJ.chg.size; omega)).trans hJ.box
    have hbd1 := PO.upd_bd (x := x) (c := z - 1) hJ.bd (by omega) (by omega)
    have hch1 := hJ.chg.setCell (p := ⟨gw, x, none⟩) (fun _ => .inl rfl) (.int .i64 (z - 1))
    have d0 := hbx1.cell
    have d1 := hF1.c1
    have d2 := hF1.c2
    have dw := hF1.cw hx
    rw [show PO.upd s.1 x (z - 1) x = z - 1 by simp [PO.upd]] at dw
    have HF1 := Lib.hid hF1
    have HJ := Lib.hid hJ
    have HB1 := Lib.hid hbd1
    have HC1 := Lib.hid hch1
    have HBX1 := Lib.hid hbx1
    have HADD := Lib.hid (add_any gr s.2 x (W.setCell ⟨gw, x, none⟩ (.int .i64 (z - 1))) hF1.rd (by omega) (lt256 hJ.lt hn))
    clear hJ0 hT0 hS0 cB hF1 hJ hbd1 hch1 hbx1 hb hs
    by_cases hz0 : z - 1 = 0
    · have hzt : (z - 1 == 0) = true := by simp [hz0]
      have HZ := Lib.hid hz0
      have hbx2 : Boxed ((W.setCell ⟨gw, x, none⟩ (.int .i64 (z - 1))).setCell ⟨gr, 0, none⟩ (.int .u64 ((s.2 ||| 2 ^ x : Nat) : Int))).drew w.heap.size 97 (.pointer (some ⟨gf, 0, none⟩)) := (Below.heap_setCell _ ⟨gr, 0, none⟩ _ w.heap.size (show w.heap.size ≠ gr by omega)).trans HBX1.out
      have hF2 := HF1.out.setr (s.2 ||| 2 ^ x)
      have hfin : FrJ w lo gf ga n gw gr w.heap.size (100 + ((pre ++ [(⟨x, hx⟩ : El n)]).length : Int)) ((vals (pre ++ [(⟨x, hx⟩ : El n)])).foldl PO.stT (F, m ^^^ (m &&& 2 ^ a))) ((W.setCell ⟨gw, x, none⟩ (.int .i64 (z - 1))).setCell ⟨gr, 0, none⟩ (.int .u64 ((s.2 ||| 2 ^ x : Nat) : Int))).drew := by
        rw [hnext]
        unfold PO.stT
        rw [hz, if_pos hz0]
        exact ⟨hF2.keep rfl rfl rfl, by rw [List.length_append, List.length_singleton, Int.natCast_add, ← Int.add_assoc]; exact HB1.out, PO.add_lt HJ.out.lt hx, hbx2, (HC1.out.setCell (p := ⟨gr, 0, none⟩) (fun _ => .inr rfl) _).drew⟩
      have HFIN := Lib.hid hfin
      clear hfin hbx2 hF2 hz0 hz hnext hs'
      gi_wp2_with ((first | refine ⟨trivial, fun _ => by omega, ?_⟩ | refine ⟨trivial, ?_⟩)
                   gi_at_call 41
                   refine (CallsIn.inRound l (callsIn_wide.2 HADD.out)).mono ?_
                   rintro e w' ⟨⟨v', rfl⟩, rfl⟩)
      all_goals exact ⟨(((KeepsOthers.setCell _ _ _).trans (KeepsOthers.setCell _ _ _)).trans (KeepsOthers.drew _)).from _, (((Keeps.refl _ _).setCell (by omega) _).setCell (by omega) _).drew, HFIN.out⟩
    · have hzt : (z - 1 == 0) = false := by simp [hz0]
      have HZ := Lib.hid hz0
      have hfin : FrJ w lo gf ga n gw gr w.heap.size (100 + ((pre ++ [(⟨x, hx⟩ : El n)]).length : Int)) ((vals (pre ++ [(⟨x, hx⟩ : El n)])).foldl PO.stT (F, m ^^^ (m &&& 2 ^ a))) (W.setCell ⟨gw, x, none⟩ (.int .i64 (z - 1))) := by
        rw [hnext]
        unfold PO.stT
        rw [hz, if_neg hz0]
        exact ⟨HF1.out, by rw [List.length_append, List.length_singleton, Int.natCast_add, ← Int.add_assoc]; exact HB1.out, HJ.out.lt, HBX1.out, HC1.out⟩
      have HFIN := Lib.hid hfin
      clear hfin hz0 hz hnext hs'
      gi_wp2
      all_goals exact ⟨(KeepsOthers.setCell _ _ _).from _, (Keeps.refl _ _).setCell (by omega) _, HFIN.out⟩
  case done =>
    rintro D ys W hD hys hJ hK
    have hD3 : w.heap.size + 2 ≤ D := by omega
    clear hsz cB hT0 hS0 hJ0
    gi_wp2
    refine ⟨by simp, .inl ⟨_, _, rfl, run_takeDeferred hK, ?_⟩⟩
    rw [show vals ys = PO.els (PO.rw_ R a) from hys] at hJ
    exact ⟨_, results_none rfl _ _ _, ⟨_, rfl⟩, hJ.fr.own (grownBy_putObj' W D _) (deferred_row hK), hJ.chg.put (by omega) _⟩
  case stop =>
    rintro D c pre W _ _ h _
    exact h.elim
end Go.Proofs.YtlomhoohmcnniaaDoor

namespace Go.Proofs.YtlomhoohmcnniaaDoor
open Go Go.RowKit Go.Proofs Go.Shelf

/-- A post-condition that bars a panic. -/
abbrev NoPan (Q : Exit → Act → World → Prop) : Exit → Act → World → Prop := fun e a w => match e with
  | .panic _ => False
  | e => Q e a w
theorem callsIn_np {P : Program} {F : Fence} {n : Nat} {f : FuncId} {fn : Func} {c : Code} {args : Array Value} {w : World} {R : Ending → World → Prop} (h1 : P.funcs[f]? = some fn) (h2 : fn.body = some c) (h3 : F.fn f)
    (h : Code.wpIn F n P c (NoPan (bodyPostM F n P fn R)) { tmps := args ++ Array.replicate (fn.ntmps - args.size) undef, defers := [] } w) (h4 : F.round = none) : CallsIn F n P f args w R :=
  callsIn_of_wp_marks h1 h2 h3 (Code.wpIn_mono (fun e a w h => by cases e <;> first | exact h | exact h.elim) h) h4
/-- A piece of code that goes on behind its end alone. -/
abbrev Norm (S : Act → World → Prop) : Exit → Act → World → Prop := fun e a w => match e with
  | .normal => S a w
  | _ => False
theorem cut_norm {F : Fence} {n : Nat} {P : Program} {c : Code} {Q : Exit → Act → World → Prop} {a : Act} {w : World} (S : Act → World → Prop) (h1 : Code.wpIn F n P c (Norm S) a w) (h2 : ∀ a' w', S a' w' → Q .normal a' w') : Code.wpIn F n P c Q a w :=
  Code.wpIn_mono (fun e a w h => by cases e <;> first | exact h2 _ _ h | exact h.elim) h1
/-- What lies at a block of a row of new blocks. -/
theorem heap_alloc_at (W : World) (o : Obj) (b : Nat) : (W.alloc o).heap[b]? = if b = W.heap.size then some o else W.heap[b]? := by
  by_cases h : b = W.heap.size
  · rw [if_pos h, h]
    exact World.alloc_heap_new W o
  · rw [if_neg h]
    rcases Nat.lt_or_ge b W.heap.size with h1 | h1
    · exact Below.heap_alloc W o b h1
    · rw [Array.getElem?_eq_none h1, Array.getElem?_eq_none (by simp; omega)]
theorem rep_range (n : Nat) (v : Value) : Array.replicate n v = ((List.range n).map fun _ => v).toArray := by
  apply Array.ext'
  rw [Array.toList_replicate]
  apply List.ext_getElem?
  intro i
  rw [List.getElem?_replicate, List.getElem?_map]
  by_cases h : i < n
  · rw [if_pos h, List.getElem?_range h]
    rfl
  · rw [if_neg h, List.getElem?_eq_none (by simp; omega)]
    rfl
abbrev mkD (D : Nat) : Deferred := { target := Target.collected D, args := #[] }
/-- The blocks Ds hold no calls, and lie between lo and hi. -/
structure Mks (W : World) (lo hi : Nat) (Ds : List Nat) : Prop where
  nodup : Ds.Nodup
  blk : ∀ D ∈ Ds, W.heap[D]? = some (.deferred (some []))
  low : ∀ D ∈ Ds, lo ≤ D
  high : ∀ D ∈ Ds, D < hi
/-- What is left when the marks are taken. -/
structure Took (W W' : World) (Ds : List Nat) : Prop where
  os : W'.os = W.os
  tape : W'.tape = W.tape
  output : W'.output = W.output
  size : W'.heap.size = W.heap.size
  block : ∀ b, b ∉ Ds → W'.heap[b]? = W.heap[b]?
theorem leave_marks {F : Fence} {n : Nat} {P : Program} {fn : Func} {tmps : Array Value} {R : Ending → World → Prop} : ∀ (Ds : List Nat) (W : World), Ds.Nodup → (∀ D ∈ Ds, W.heap[D]? = some (.deferred (some []))) →
    (∀ W', Took W W' Ds → LeavesIn F n P fn tmps R [] .returning W') → LeavesInM F n P fn tmps R (Ds.map mkD) .returning W
  | [], W, _, _, h => h W ⟨rfl, rfl, rfl, rfl, fun _ _ => rfl⟩
  | D :: Ds, W, hd, hb, h => by
    rw [List.nodup_cons] at hd
    rw [List.map_cons, LeavesInM.eq_2]
    refine ⟨by simp, .inl ⟨D, _, rfl, run_takeDeferred (hb D (by simp)), ?_⟩⟩
    refine leave_marks Ds _ hd.2 (fun D' hD' => ?_) fun W' ht => h W' ⟨ht.os, ht.tape, ht.output, by rw [ht.size]; simp, fun b hnb => ?_⟩
    · rw [World.putObj_heap_other (by rintro rfl; exact hd.1 hD')]
      exact hb D' (List.mem_cons_of_mem _ hD')
    · rw [List.mem_cons, not_or] at hnb
      rw [ht.block b hnb.2, World.putObj_heap_other hnb.1]
section
variable {W W' X Y w : World} {lo hi B : Nat} {Ds : List Nat} {S : Nat → Prop}
theorem Mks.nil (W : World) (lo hi : Nat) : Mks W lo hi [] := ⟨List.nodup_nil, (fun D h => by cases h), (fun D h => by cases h), fun D h => by cases h⟩
theorem Mks.leave (h : Mks W lo hi Ds) {F : Fence} {n : Nat} {P : Program} {fn : Func} {tmps : Array Value} {R : Ending → World → Prop} (k : ∀ W', Took W W' Ds → LeavesIn F n P fn tmps R [] .returning W') : LeavesInM F n P fn tmps R (Ds.map mkD) .returning W := leave_marks Ds W h.nodup h.blk k
theorem Mks.ne (h : Mks W lo hi Ds) {b : Nat} {C : Array Value} {t : TypeId} {fr : Nat × Nat} (hb : W.heap[b]? = some (.cells C t fr)) : b ∉ Ds := by
  intro hm
  have := h.blk b hm
  rw [hb] at this
  cases this
theorem Took.cells (ht : Took W W' Ds) (h : Mks W lo hi Ds) {b : Nat} {C : Array Value} {t : TypeId} {fr : Nat × Nat} (hb : W.heap[b]? = some (.cells C t fr)) : W'.heap[b]? = some (.cells C t fr) := (ht.block b (h.ne hb)).trans hb
theorem Took.chg (ht : Took W W' Ds) (h : Mks W lo hi Ds) (hc : Chg S w W) (hw : w.heap.size ≤ lo) : Chg S w W' :=
  ⟨ht.os.trans hc.os, ht.tape.trans hc.tape, ht.output.trans hc.output, by rw [ht.size]; exact hc.size, fun b hb hn => (ht.block b (fun hm => by have := h.low b hm; omega)).trans (hc.block b hb hn)⟩
theorem Took.below (ht : Took W W' Ds) (h : Mks W lo hi Ds) (hc : Below lo w W) : Below lo w W' :=
  ⟨ht.os.trans hc.os, ht.tape.trans hc.tape, ht.output.trans hc.output, by rw [ht.size]; exact hc.size, fun b hb => (ht.block b (fun hm => by have := h.low b hm; omega)).trans (hc.block b hb)⟩
theorem Mks.keep (h : Mks W lo hi Ds) (hk : ∀ b, W.heap[b]? = some (.deferred (some [])) → b < hi → W'.heap[b]? = W.heap[b]?) : Mks W' lo hi Ds := ⟨h.nodup, fun D hD => (hk D (h.blk D hD) (h.high D hD)).trans (h.blk D hD), h.low, h.high⟩
theorem Mks.setCell (h : Mks W lo hi Ds) {p : Addr} {C : Array Value} {t : TypeId} {fr : Nat × Nat} (hp : W.heap[p.block]? = some (.cells C t fr)) (u : Value) : Mks (W.setCell p u) lo hi Ds := h.keep fun b hb _ => Below.heap_setCell W p u b (by rintro rfl; rw [hp] at hb; cases hb)
theorem Mks.below (h : Mks W lo hi Ds) (hb : Below hi W W') : Mks W' lo hi Ds := h.keep fun b _ hlt => hb.block b hlt
theorem Mks.drew (h : Mks W lo hi Ds) : Mks W.drew lo hi Ds := ⟨h.nodup, h.blk, h.low, h.high⟩
theorem Mks.own (h : Mks X lo hi Ds) {row : Option Nat} (hB : hi ≤ B) (hg : X.grownBy Y row) (hr : ∀ r, row = some r → B ≤ r ∧ ∃ o : Obj, X.heap[r]? = some o ∧ o.isCells = false) : Mks Y lo hi Ds :=
  h.keep fun b hb hlt => hg.block b (Array.getElem?_eq_some_iff.1 hb).1 (fun e => by have := (hr b e.symm).1; omega)
theorem Mks.cons (h : Mks W lo hi Ds) {D : Nat} (hD : W.heap[D]? = some (.deferred (some []))) (h1 : hi ≤ D) (h2 : lo ≤ D) {hi' : Nat} (h3 : D < hi') : Mks W lo hi' (D :: Ds) :=
  ⟨List.nodup_cons.2 ⟨fun hm => by have := h.high D hm; omega, h.nodup⟩, fun x hx => by
    rcases List.mem_cons.1 hx with rfl | hx
    · exact hD
    · exact h.blk x hx, fun x hx => by
    rcases List.mem_cons.1 hx with rfl | hx
    · exact h2
    · exact h.low x hx, fun x hx => by
    rcases List.mem_cons.1 hx with rfl | hx
    · exact h3
    · have := h.high x hx; omega⟩
theorem Mks.more (h : Mks W lo hi Ds) {hi' : Nat} (hh : hi ≤ hi') : Mks W lo hi' Ds := ⟨h.nodup, h.blk, h.low, fun D hD => Nat.lt_of_lt_of_le (h.high D hD) hh⟩
end
end Go.Proofs.YtlomhoohmcnniaaDoor

namespace Go.Proofs.YtlomhoohmcnniaaDoor
open Go Go.RowKit Go.Proofs Go.Shelf
attribute [local go_sem] Oper.semAt_some

theorem box_set {W : World} {B b : Nat} {v' u : Value} {t : TypeId} (hb : Boxed W b t u) (hne : b ≠ B) : Boxed (W.setCell ⟨B, 0, none⟩ v') b t u := by
  unfold Boxed at hb ⊢
  rw [Below.heap_setCell _ _ _ _ hne]
  exact hb
theorem box_put {W : World} {D b : Nat} {t : TypeId} {u : Value} (h : Boxed W b t u) (hK : W.heap[D]? = some (.deferred (some []))) (o : Obj) : Boxed (W.putObj D o) b t u :=
  block_own h (grownBy_putObj' W D o) (fun r e => by cases e; exact ⟨_, hK, rfl⟩)
theorem ret_int_bool {fn : Func} {p q : Tmp} (hf : fn.results = #[.cell p 3, .cell q 4]) {V : World} {b c : Nat} {u v : Value} (tmps : Array Value) (hp : tmps.getD p undef = .pointer (some ⟨b, 0, none⟩)) (hq : tmps.getD q undef = .pointer (some ⟨c, 0, none⟩))
    (hu : Boxed V b 3 u) (hv : Boxed V c 4 v) : (results fn tmps).run Tryd.prog V = .ok (.tuple #[u, v]) V := by
  have c1 := hu.cell
  have c2 := hv.cell
  simp only [results, hf]
  have hp' : tmps[p]?.getD undef = .pointer (some ⟨b, 0, none⟩) := by simpa using hp
  have hq' : tmps[q]?.getD undef = .pointer (some ⟨c, 0, none⟩) := by simpa using hq
  simp [Sem.run_bind, Result.andThen, asAddr, hp', hq', go_sem, c1, c2]
set_option maxRecDepth 100000 in
set_option maxHeartbeats 4000000 in
theorem first_in (N : Nat) (hN : 6 ≤ N) (n k g m : Nat) (w : World) (hT : Tab w) (hg : Sw w k g m) (hm : m < 2 ^ n) (hn : n ≤ 14) :
    CallsIn Fence.wide N Tryd.prog 59 #[.slice (some ⟨g, 0, none⟩) k k] w fun e w' => e = .returned (.tuple #[.int .i64 (((PO.els m)[0]?.getD 0 : Nat) : Int), .bool (PO.els m)[0]?.isSome]) ∧ Below w.heap.size w w' := by
  have h1 : 1 ≤ N := by omega
  refine callsIn_of_wp_marks Tryd.func59 rfl trivial ?_ rfl
  simp only [Tryd.ntmps59, List.size_toArray, List.length_cons, List.length_nil, Nat.reduceAdd, Nat.reduceSub, Array.replicate_succ, Array.replicate_zero, List.push_toArray, List.append_toArray, List.nil_append, List.cons_append]
  gi_wp2_with ((first | refine ⟨trivial, fun _ => by omega, ?_⟩ | refine ⟨trivial, ?_⟩)
               gi_at_call 45
               refine (callsIn_wide.2 (members_any _ _ _ _)).mono ?_
               rintro e w' ⟨rfl, rfl⟩)
  obtain ⟨W0, hW0⟩ : ∃ W0, ((w.alloc (.cells #[.int .i64 0] 3)).alloc (.cells #[.bool false] 4)).alloc (.cells #[.slice (some ⟨g, 0, none⟩) k k] 67) = W0 := ⟨_, rfl⟩
  have hb0 : Below w.heap.size w W0 := by rw [← hW0]; exact (((Below.refl _ _).alloc (Nat.le_refl _) _).alloc (by simp) _).alloc (by simp; omega) _
  have hsz : W0.heap.size = w.heap.size + 3 := by rw [← hW0]; simp
  have b0 : Boxed W0 w.heap.size 3 (.int .i64 0) := by rw [← hW0]; exact ((Boxed.new w _ _).alloc _).alloc _
  have b1 : Boxed W0 (w.heap.size + 1) 4 (.bool false) := by
    rw [← hW0]
    have := Boxed.new (w.alloc (.cells #[.int .i64 0] 3)) 4 (.bool false)
    rw [World.size_alloc] at this
    exact this.alloc _
  have b2 : W0.cell? ⟨w.heap.size + 2, 0, none⟩ = some (.slice (some ⟨g, 0, none⟩) k k) := by
    rw [← hW0]
    have := Boxed.new ((w.alloc (.cells #[.int .i64 0] 3)).alloc (.cells #[.bool false] 4)) 67 (.slice (some ⟨g, 0, none⟩) k k)
    rw [World.size_alloc, World.size_alloc] at this
    exact this.cell
  have hT0 := hT.below hT.lt hb0
  have hS0 := hg.below hg.lt hb0
  have hgl := hg.lt
  have htl := hT.lt
  rw [hW0]
  clear hW0
  refine wpIn_rangeFunc_ownG rfl h1 (gf := 56) (lb := #[.pointer (some ⟨w.heap.size + 1 + 1, 0, none⟩)]) rfl trivial (enters_of Tryd.func56 (by kernel_rfl) rfl)
    (members_stops (N - 1) (by omega) (w.heap.size + 2) n k g m (fun k => k = 0 ∨ k = w.heap.size + 2 ∨ k = g) (.inl rfl) hm hn W0 hT0 b2 hS0)
    (fun h k => Keeps.trans h k) (fun W l o o' hl h _ _ => Keeps.putObj (m := W0.heap.size) (by rintro k (rfl | rfl | rfl) <;> omega) W l o o' hl h) (Below.refl _ _) (fun _ => rfl)
    (fun pre W => pre = [] ∧ Boxed W w.heap.size 3 (.int .i64 0) ∧ Boxed W (w.heap.size + 1) 4 (.bool false) ∧ Below w.heap.size w W)
    (fun c pre W => c = .ret ∧ ∃ x : El n, pre = [x] ∧ Boxed W w.heap.size 3 (.int .i64 (x.1 : Int)) ∧ Boxed W (w.heap.size + 1) 4 (.bool true) ∧ Below w.heap.size w W)
    (fun pre X Y row hJ hg hr => ⟨hJ.1, block_own hJ.2.1 hg fun r e => (hr r e).2, block_own hJ.2.2.1 hg fun r e => (hr r e).2, ownFrom_below (β := Unit) (B := W0.heap.size) (Nat.le_refl _) (by omega) () X Y row hJ.2.2.2 hg hr⟩)
    (fun c pre X Y row hJ hg hr => by
      obtain ⟨e, x, e2, j1, j2, j3⟩ := hJ
      exact ⟨e, x, e2, block_own j1 hg fun r e => (hr r e).2, block_own j2 hg fun r e => (hr r e).2, ownFrom_below (β := Unit) (B := W0.heap.size) (Nat.le_refl _) (by omega) () X Y row j3 hg hr⟩)
    ⟨rfl, b0, b1, hb0⟩
    (fun x => { tmps := #[.slice (some ⟨g, 0, none⟩) k k, undef, .pointer (some ⟨w.heap.size, 0, none⟩), .pointer (some ⟨w.heap.size + 1, 0, none⟩), .int .i64 (x.1 : Int), .slice (some ⟨g, 0, none⟩) k k, .func (Fn.func 56) #[] #[.pointer (some ⟨w.heap.size + 1 + 1, 0, none⟩)], .int .i64 (x.1 : Int), undef], defers := [] }) ?assign ?body ?done ?stop
  case assign =>
    intro l x W K hK
    unfold elA
    gi_wp2
    exact hK
  case body =>
    rintro l pre ⟨x, hx⟩ W ⟨rfl, j0, j1, jB⟩ hlen
    have c0 := j0.cell
    have c1 := j1.cell
    have f0 := j0.frozen
    have f1 := j1.frozen
    gi_wp2
    exact ⟨((KeepsOthers.setCell _ _ _).trans (KeepsOthers.setCell _ _ _)).from _, rfl, ⟨x, hx⟩, rfl, box_set (j0.set _) (by omega), (box_set j1 (by omega)).set _, (jB.setCell (p := ⟨w.heap.size, 0, none⟩) (Nat.le_refl _) _).setCell (p := ⟨w.heap.size + 1, 0, none⟩) (Nat.le_succ _) _⟩
  case done =>
    rintro D ys W hD hys ⟨rfl, j0, j1, jB⟩ hK
    have c0 := j0.cell
    have c1 := j1.cell
    have f0 := j0.frozen
    have f1 := j1.frozen
    have he : (PO.els m)[0]? = none := by rw [← hys]; rfl
    have hKK := ((KeepsOthers.setCell W ⟨w.heap.size, 0, none⟩ (.int .i64 0)).trans (KeepsOthers.setCell _ ⟨w.heap.size + 1, 0, none⟩ (.bool false))).same D _ hK rfl
    have HKK := Lib.hid hKK
    have B0 := Lib.hid (box_set (v' := .bool false) (B := w.heap.size + 1) (j0.set (.int .i64 0)) (by omega))
    have B1 := Lib.hid ((box_set (v' := .int .i64 0) (B := w.heap.size) j1 (by omega)).set (.bool false))
    have HE := Lib.hid he
    clear hK hKK he hys
    gi_wp2
    refine ⟨by simp, .inl ⟨_, _, rfl, run_takeDeferred HKK.out, ?_⟩⟩
    refine ⟨_, ret_int_bool rfl _ rfl rfl (box_put B0.out HKK.out _) (box_put B1.out HKK.out _), ?_, ?_⟩
    · rw [HE.out]; rfl
    · exact ((jB.setCell (p := ⟨w.heap.size, 0, none⟩) (Nat.le_refl _) _).setCell (p := ⟨w.heap.size + 1, 0, none⟩) (Nat.le_succ _) _).trans (belowK_b (w := w) (Nat.le_refl _) _ D _ _ (by omega) HKK.out rfl rfl)
  case stop =>
    rintro D c pre W hD hpre ⟨rfl, x, rfl, j0, j1, jB⟩ hK
    gi_wp2
    refine ⟨by simp, .inl ⟨_, _, rfl, run_takeDeferred hK, ?_⟩⟩
    refine ⟨_, ret_int_bool rfl _ rfl rfl (box_put j0 hK _) (box_put j1 hK _), ?_, jB.trans (belowK_b (w := w) (Nat.le_refl _) W D _ _ (by omega) hK rfl rfl)⟩
    obtain ⟨t, ht⟩ := hpre
    rw [← ht]
    rfl
end Go.Proofs.YtlomhoohmcnniaaDoor
