/-
  The reference's At: where an envelope with a name is, or -1. No condition but the length.
-/
import Derived.Test.YtepbppckhfiplaaNwQ
import Derived.Test.YtepbppckhfiplaaLst
import Derived.BigQuiet
namespace Go.Proofs.Ytepbppckhfiplaa
open Go Go.RowKit Go.Proofs
attribute [local go_sem] Oper.semAt_some

namespace NW
def idxN : List En → NM.Ms → Nat
  | [], _ => 0
  | x :: t, m => if x.m = m then 0 else idxN t m + 1
def idx (l : List En) (m : NM.Ms) : Int := if has l m then (idxN l m : Int) else -1
theorem idxN_at : ∀ {l : List En} {m : NM.Ms} {k : Nat} {x : En}, l[k]? = some x → x.m = m → has (l.take k) m = false → idxN l m = k
  | [], m, k, x, h, _, _ => by simp at h
  | y :: t, m, 0, x, h, hm, _ => by
    simp at h
    subst h
    rw [idxN, if_pos hm]
  | y :: t, m, k + 1, x, h, hm, hn => by
    rw [List.take_succ_cons] at hn
    have h1 : y.m ≠ m := has_not.1 hn y (by simp)
    have h2 : has (t.take k) m = false := has_not.2 fun z hz => has_not.1 hn z (by simp [hz])
    rw [idxN, if_neg h1, idxN_at (l := t) (k := k) (by simpa using h) hm h2]
theorem idx_at {l : List En} {m : NM.Ms} {k : Nat} {x : En} (h : l[k]? = some x) (hm : x.m = m) (hn : has (l.take k) m = false) : idx l m = k := by
  unfold idx
  rw [if_pos (has_iff.2 ⟨x, List.mem_of_getElem? h, hm⟩), idxN_at h hm hn]
theorem idx_no {l : List En} {m : NM.Ms} (h : has l m = false) : idx l m = -1 := by
  unfold idx
  rw [h]
  rfl
/-- Where it is, there it stands. -/
theorem idx_find {l : List En} {m : NM.Ms} (hs : Srt l) (h : has l m = true) : ∃ k x, idx l m = ((k : Nat) : Int) ∧ l[k]? = some x ∧ find l m = some x := by
  have key : ∀ (l : List En), has l m = true → ∃ x, l[idxN l m]? = some x ∧ x.m = m := by
    intro l
    induction l with
    | nil => intro h; simp [has] at h
    | cons y t ih =>
      intro h
      rw [idxN]
      by_cases hy : y.m = m
      · rw [if_pos hy]
        exact ⟨y, rfl, hy⟩
      · rw [if_neg hy]
        obtain ⟨z, hz, hzm⟩ := has_iff.1 h
        have hzt : z ∈ t := (List.mem_cons.1 hz).resolve_left fun e => hy (e ▸ hzm)
        obtain ⟨x, hx, hm⟩ := ih (has_iff.2 ⟨z, hzt, hzm⟩)
        exact ⟨x, by simpa using hx, hm⟩
  obtain ⟨x, hx, hm⟩ := key l h
  refine ⟨idxN l m, x, by unfold idx; rw [if_pos h], hx, (find_some hs).2 ⟨List.mem_of_getElem? hx, hm⟩⟩
end NW
set_option maxHeartbeats 4000000 in
set_option maxRecDepth 100000 in
theorem refAt_any {A : Option Addr} {n c : Nat} {l : List NW.En} (m : NM.Ms) (w : World) (h1 : Ens w A n c l) (bn : n ≤ 1000000) :
    Calls Try.prog 29 #[.slice A n c, msV m] w fun e w' => e = .returned (.int .i64 (NW.idx l m)) ∧ Below w.heap.size w w' := by
  obtain ⟨U, hU⟩ : ∃ U, w.alloc (.cells #[.int .i64 m.c, .int .i64 m.h, .int .i64 m.t, .int .i64 m.i, .int .i64 m.p] 26) = U := ⟨_, rfl⟩
  have hb : Below w.heap.size w U := hU ▸ one_box w _
  have k1 : U.heap[w.heap.size]? = some (.cells #[.int .i64 m.c, .int .i64 m.h, .int .i64 m.t, .int .i64 m.i, .int .i64 m.p] 26 (0, 0)) := by rw [← hU]; exact new_at rfl
  have HK := Lib.hid (fun (V : World) (hV : Below U.heap.size U V) => row5 ((hV.block _ (heap_lt k1)).trans k1))
  have HE := Lib.hid (h1.keep hb)
  have HB := Lib.hid hb
  have HN := Lib.hid h1.len
  clear k1 hb h1
  go_enter Try.func29, Try.ntmps29
  go_wp2_with fail
  clear hU
  go_loopw [5] (fun i V => ∃ k : Nat, k ≤ n ∧ i = .int .i64 (k : Int) ∧ Hid (NW.has (l.take k) m = false) ∧ Hid (Below U.heap.size U V)) (fun i _ => n - (intOf i).toNat)
  case atStart => exact ⟨0, by omega, rfl, rfl, Below.refl _ _⟩
  case round =>
    obtain ⟨k, hk, rfl, HQ, HV⟩ := hrel
    obtain ⟨x0, x1, x2, x3, x4⟩ := HK.out wr HV.out
    by_cases hin : k < n
    · have dk : decide (k < n) = true := decide_eq_true hin
      obtain ⟨x, hx⟩ : ∃ x, l[k]? = some x := ⟨_, List.getElem?_eq_getElem (by rw [HN.out]; exact hin)⟩
      obtain ⟨g, hg, hgl, p0, p1, p2, p3, p4, p5, p6, p7, p8⟩ := en_at (HE.out.keep HV.out) hx
      subst hg
      have hne : ∀ V, (binOp .eql 26 (msV x.m) (msV m)).run Try.prog V = .ok (.bool (decide (x.m = m))) V := fun V => eqM_any x.m m V
      have HX := Lib.hid hx
      clear hx
      by_cases hxy : x.m = m
      · have dq : decide (x.m = m) = true := decide_eq_true hxy
        simp only [dq] at hne
        have HT := Lib.hid (NW.idx_at HX.out hxy HQ.out)
        clear HX hxy dq
        go_wp2_with (go_quiet (fail))
        go_ret
        exact ⟨by rw [HT.out]; rfl, HB.out.trans ((HV.out.trans ((drewN_below wr _).mono HV.out.size)).mono HB.out.size)⟩
      · have dq : decide (x.m = m) = false := decide_eq_false hxy
        simp only [dq] at hne
        have HT := Lib.hid (show NW.has (l.take (k + 1)) m = false from LS.any_more HX.out HQ.out dq)
        clear HX hxy dq
        go_wp2_with (go_quiet (fail))
        go_roundw
        case rel => exact ⟨k + 1, by omega, by go_num, HT, HV.out.trans ((drewN_below wr _).mono HV.out.size)⟩
        case measure => simp [intOf]; omega
    · have dk : decide (k < n) = false := decide_eq_false hin
      have HT := Lib.hid (NW.idx_no (show NW.has l m = false from LS.any_take HQ.out (by have := HN.out; omega)))
      clear HQ
      go_wp2_with fail
      go_ret
      exact ⟨by rw [HT.out]; rfl, HB.out.trans (HV.out.mono HB.out.size)⟩
end Go.Proofs.Ytepbppckhfiplaa
