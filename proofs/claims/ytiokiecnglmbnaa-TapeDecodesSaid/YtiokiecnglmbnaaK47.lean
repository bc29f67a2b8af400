/-
  The reference's count and read. Conditions: the limits.
-/
import Derived.Test.YtiokiecnglmbnaaK46
import Derived.Test.YtiokiecnglmbnaaK3
import Derived.Test.YtiokiecnglmbnaaK4
import Derived.Deep.AppendLies
import Derived.IntWalk
import Derived.Deep.Cut

namespace Go.Proofs.Ytiokiecnglmbnaa
open Go Go.RowKit Go.Proofs
attribute [local go_sem] Oper.semAt_some

theorem info_splitI {P : Program} {t : TypeId} {z : Option Value} {s b : Nat} (h : (P.info? t).map (fun i => (i.zero, i.size, i.bytes)) = some (z, s, b)) : ∃ i, P.info? t = some i ∧ i.zero = z ∧ i.size = s ∧ i.bytes = b := by
  cases hi : P.info? t with
  | none => rw [hi] at h; cases h
  | some i =>
    rw [hi] at h
    simp only [Option.map_some, Option.some.injEq, Prod.mk.injEq] at h
    exact ⟨i, rfl, h.1, h.2.1, h.2.2⟩
theorem rdZ_snoc : ∀ (k : Nat) (s : St), rdZ (k + 1) s = ((rdZ k s).1 ++ [(rdI (rdZ k s).2).1], (rdI (rdZ k s).2).2)
  | 0, s => rfl
  | k + 1, s => by
    rw [rdZ, rdZ_snoc k (rdI s).2]
    rfl
theorem rdZ_len : ∀ (k : Nat) (s : St), (rdZ k s).1.length = k
  | 0, _ => rfl
  | k + 1, s => by
    rw [rdZ]
    simp [rdZ_len k]
/-- The number that the reference's count returns. -/
def refN (most : Int) (s : St) : Int := if most < (rdU s).1 then 0 else (rdU s).1
set_option maxHeartbeats 1000000 in
theorem count_any {B : Nat} (g : Nat) (most : Int) (s : St) (w : World) (h : RAt B w g s) (h0 : 0 ≤ most) (h1 : most ≤ 1000000) :
    Calls Try.prog 58 #[.pointer (some ⟨g, 0, none⟩), .int .i64 most] w fun r w' => r = .returned (.int .i64 (refN most s)) ∧ RAt B w' g (rdC most s).2 ∧ But g w w' := by
  have HU := Lib.hid (r_uint g s w h)
  have hw := h.w64
  obtain ⟨hw0, hw1⟩ := hw
  have hm : IntKind.u64.wrap most = most := by rw [IntKind.wrap_u64]; omega
  clear h
  obtain ⟨n, hn⟩ : ∃ n, (rdU s).1 = n := ⟨_, rfl⟩
  rw [hn] at HU hw0 hw1
  go_enter Try.func58, Try.ntmps58
  by_cases hlt : most < n
  · have d0 : decide (most < n) = true := decide_eq_true hlt
    have HR := Lib.hid (show refN most s = 0 ∧ (rdC most s).2 = (rdU s).2.fail 2 from by unfold refN rdC; rw [hn]; exact ⟨if_pos hlt, if_pos hlt⟩)
    clear hn hlt
    go_upto_region 3 with (go_at_call 83; refine HU.out.mono ?_; clear HU; rintro e w1 ⟨rfl, h1, b1⟩)
    have HF := Lib.hid (r_fail g _ 2 w1 h1 rfl ⟨by decide, by decide⟩)
    have HB := Lib.hid b1
    clear h1 b1
    go_wp2_with (go_at_call 61; refine HF.out.mono ?_; clear HF; rintro e w2 ⟨rfl, h2, b2⟩)
    go_ret
    rw [HR.out.1, HR.out.2]
    exact ⟨rfl, h2, but_trans HB.out b2⟩
  · have d0 : decide (most < n) = false := decide_eq_false hlt
    have HR := Lib.hid (show refN most s = n ∧ (rdC most s).2 = (rdU s).2 from by unfold refN rdC; rw [hn]; exact ⟨if_neg hlt, if_neg hlt⟩)
    have hi : IntKind.i64.wrap n = n := IntWalk.i64_in _ (by omega)
    clear hn hlt
    go_wp2_with (go_at_call 83; refine HU.out.mono ?_; clear HU; rintro e w1 ⟨rfl, h1, b1⟩)
    go_ret
    rw [HR.out.1, HR.out.2]
    exact ⟨rfl, h1, b1⟩
theorem own_int {w : World} {base n : Nat} {v : Value} {xs : List Value} (h : w.ownsRow base 3 1 v n xs) {b : Nat} (hb : v.ownBlock = some b) : base ≤ b ∧ ∃ C, w.heap[b]? = some (.cells C 3 (0, 0)) := by
  rcases h.2 with ⟨rfl, _⟩ | ⟨g, cap, cur, rfl, hg, hh, _⟩
  · cases hb
  · have e2 : some g = some b := hb
    injection e2 with e2
    subst e2
    exact ⟨hg, _, hh⟩
theorem own_belowR {w w' : World} {base size n : Nat} {e : TypeId} {v : Value} {xs : List Value} (h : w.ownsRow base e size v n xs) (hb : Below w.heap.size w w') : w'.ownsRow base e size v n xs :=
  h.kept (row := none) ⟨hb.os, hb.tape, hb.output, hb.size, fun k hk _ => hb.block k hk⟩ (by cases hv : v.ownBlock <;> simp)
set_option maxHeartbeats 4000000 in
set_option maxRecDepth 100000 in
theorem read_any {B : Nat} (g : Nat) (m : Nat) (s : St) (w : World) (h : RAt B w g s) (hB : B ≤ w.heap.size) (hm : m ≤ 100) :
    Calls Try.prog 59 #[.pointer (some ⟨g, 0, none⟩), .int .i64 (m : Int)] w fun r w' => (∃ A c, r = .returned (.slice A m c) ∧ w'.ownsRow w.heap.size 3 1 (.slice A m c) m ((rdZ m s).1.map (Value.int .i64))) ∧ RAt B w' g (rdZ m s).2 ∧ But g w w' := by
  obtain ⟨i0, hi0, hz0, hs0, hb0⟩ := info_splitI info_int
  have hgl := h.lt
  have H := Lib.hid h
  clear h
  go_enter Try.func59, Try.ntmps59
  go_wp2_with fail
  go_loopw [5, 6] (fun kept i V => ∃ (k c : Nat) (A : Option Addr), k ≤ m ∧ i = .int .i64 (k : Int) ∧ kept = .slice A k c ∧ Hid (RAt B V g (rdZ k s).2 ∧ But g w V ∧ V.ownsRow w.heap.size 3 1 (.slice A k c) k ((rdZ k s).1.map (Value.int .i64)))) (fun _ i _ => m - (intOf i).toNat)
  case atStart => exact ⟨0, 0, none, by omega, rfl, rfl, H.out, World.grownBy.refl _ _, World.ownsRow_nil _ _ _ _⟩
  case round =>
    obtain ⟨k, c, A, hk, rfl, rfl, HV⟩ := hrel
    by_cases hin : k < m
    · have dk : decide (k < m) = true := decide_eq_true hin
      have dk2 : decide ((k : Int) < (m : Int)) = true := decide_eq_true (by omega)
      have HI := Lib.hid (r_int g (rdZ k s).2 wr HV.out.1)
      have HX := Lib.hid (rdZ_snoc k s)
      have hszV := HV.out.2.1.size
      obtain ⟨z, hz⟩ : ∃ z, (rdI (rdZ k s).2).1 = z := ⟨_, rfl⟩
      rw [hz] at HI HX
      go_wp2_with (first
        | (go_at_call 84; refine HI.out.mono ?_; clear HI; rintro e w4 ⟨rfl, h4, b4⟩
           have ho4 := HV.out.2.2.kept b4 (by
             rcases hv : (Value.slice A k c).ownBlock with _ | b
             · exact .inl rfl
             · refine .inr fun e => ?_
               have h1 := (own_int HV.out.2.2 hv).1
               injection e with e
               omega)
           have H4 := Lib.hid (And.intro h4 (And.intro (but_trans HV.out.2.1 b4) ho4))
           have hsz4 := b4.size
           clear h4 b4 ho4)
        | (at_builtin; refine wpList_append_lies _ rfl (.tmp 12) (.tmp 15) 22 rfl w.heap.size 3 i0 _ 1 8 Try.underlying22 hi0 hz0 hs0 hb0 rfl (by decide) (.slice A k c) k ((rdZ k s).1.map (Value.int .i64)) (by simp [Act.eval]) (own_belowR H4.out.2.2 (one_box w4 _)) ⟨w4.heap.size, 0, none⟩ 1 1 [.int .i64 z] (by simp [Act.eval]) rfl (World.news_of_block (World.alloc_heap_new w4 _)) (by simp [Value.oneCell']) (by decide) (by simp only [maxLen]; omega) (by omega) (by simp; omega) _ rfl ?_
           intro g10 c10 w10 hown10 hgr10 _ _
           have hob : ∀ b, (Value.slice A k c).ownBlock = some b → w.heap.size ≤ b := fun b hb => (own_int H4.out.2.2 hb).1
           have h5 := H4.out.1.below (one_box w4 (.cells #[.int .i64 z] 3))
           have h10 := h5.grown hgr10 (fun e => by have := hob _ e.symm; omega) (fun b e => .inl (Nat.le_trans hB (hob b e)))
           have b10 : But g w w10 := ⟨hgr10.os.trans H4.out.2.1.os, hgr10.tape.trans H4.out.2.1.tape, hgr10.output.trans H4.out.2.1.output, by have := hgr10.size; simp at this; omega, fun b hb hne => ((hgr10.block b (by simp; omega) (fun e => by have := hob _ e.symm; omega)).trans (Below.heap_alloc _ _ _ (by omega))).trans (H4.out.2.1.block b hb hne)⟩
           have R10 := Lib.hid (show RAt B w10 g (rdZ (k + 1) s).2 ∧ But g w w10 ∧ w10.ownsRow w.heap.size 3 1 (.slice (some ⟨g10, 0, none⟩) (k + 1) c10) (k + 1) ((rdZ (k + 1) s).1.map (Value.int .i64)) from by
             rw [HX.out]
             exact ⟨h10, b10, by rw [List.map_append]; exact hown10⟩)
           clear hown10 hgr10 hob h5 h10 b10))
      go_roundw
      case rel => exact ⟨k + 1, c10, _, by omega, by go_num, rfl, R10⟩
      case measure => simp [intOf]; omega
    · have dk : decide (k < m) = false := decide_eq_false hin
      have dk2 : decide ((k : Int) < (m : Int)) = false := decide_eq_false (by omega)
      obtain rfl : k = m := by omega
      go_wp2_with fail
      go_ret
      exact ⟨⟨A, c, rfl, HV.out.2.2⟩, HV.out.1, HV.out.2.1⟩
end Go.Proofs.Ytiokiecnglmbnaa
