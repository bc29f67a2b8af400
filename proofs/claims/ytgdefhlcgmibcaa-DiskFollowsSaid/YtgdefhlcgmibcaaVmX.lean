/-
  The machine's send. No condition but the lengths.
-/
import Derived.Test.YtgdefhlcgmibcaaVmW
namespace Go.Proofs.Ytgdefhlcgmibcaa
open Go Go.RowKit Go.Proofs
attribute [local go_sem] Oper.semAt_some

set_option maxHeartbeats 1000000 in
set_option maxRecDepth 100000 in
theorem send_c {F : MFix} {B g : Nat} {s : VM.St} {w : World} (h : MAt F B w g s) (hB : B ≤ w.heap.size) (lim : Int) (hlim : F.names[1]? = some lim) (a : Int) (st : List Int) (to y z : Int) (hs : s.stack = st ++ [to, y, z]) (hl : st.length < 1000) (hc : s.acts.length < 1000) (hn : 0 ≤ s.sent ∧ s.sent < 1000) :
    Calls Try.prog 63 #[.pointer (some ⟨g, 0, none⟩), .int .i64 a] w fun e w' => (∃ v, e = .returned v) ∧ MAt F B w' g (VM.sendS lim s st a to y z) ∧ KeepV B w w' := by
  have H1 := Lib.hid (pop_c h (st ++ [to, y]) z (by rw [hs]; simp) (by simp; omega))
  have H2 := Lib.hid (fun (w1 : World) (h1 : MAt F B w1 g { s with stack := st ++ [to, y] }) => pop_c h1 (st ++ [to]) y (by simp) (by simp; omega))
  have H3 := Lib.hid (fun (w1 : World) (h1 : MAt F B w1 g { s with stack := st ++ [to] }) => pop_c h1 st to rfl (by omega))
  have H4 := Lib.hid (fun (w1 : World) (s1 : VM.St) (h1 : MAt F B w1 g s1) (e1 : s1.acts = s.acts) (b1 : B ≤ w1.heap.size) => act_c h1 3 to a y z (by rw [e1]; exact hc) b1)
  clear h hs hl hc
  go_enter Try.func63, Try.ntmps63
  go_upto_region 1 with (first | (go_at_call 55; refine H1.out.mono ?_; rintro e w1 ⟨rfl, m1, k1⟩; have M1 := Lib.hid (And.intro m1 k1); clear m1 k1 H1) | (go_at_call 55; refine (H2.out _ M1.out.1).mono ?_; rintro e w2 ⟨rfl, m2, k2⟩; have M2 := Lib.hid (And.intro m2 (M1.out.2.trans k2)); clear m2 k2 H2) | (go_at_call 55; refine (H3.out _ M2.out.1).mono ?_; rintro e w3 ⟨rfl, m3, k3⟩; have M3 := Lib.hid (And.intro m3 (M2.out.2.trans k3)); clear m3 k3 H3))
  obtain ⟨⟨T, V, K, A, vc, kc, ac, hP⟩, hk⟩ := M3.out
  have hP : MPt F B w3 g { s with stack := st } T V K A vc kc ac := hP
  have hcl := mcell hP.1 (hP.2.1.names 1 lim hlim)
  have hcs := mcell hP.1 hP.2.1.sent
  have hcl : w3.cell? ⟨g, 26, none⟩ = some (.int .i64 lim) := hcl
  have hcs : w3.cell? ⟨g, 40, none⟩ = some (.int .i64 s.sent) := hcs
  have hB3 : B ≤ w3.heap.size := by have := hk.below.size; omega
  obtain ⟨n, hsn⟩ : ∃ n : Nat, s.sent = (n : Int) := ⟨_, (Int.toNat_of_nonneg hn.1).symm⟩
  have hwr : wrap64 (s.sent + 1) = s.sent + 1 := by simp only [wrap64]; omega
  have HT := Lib.hid (And.intro (mst (T := T) hP.2.1.size 40 (by omega) (.int .i64 (s.sent + 1)) rfl rfl) (show (Try.prog.info? 3).map (·.size) = some (Value.int .i64 (s.sent + 1)).cells.size from dk_sz_int))
  have HP := Lib.hid hP
  have HK := Lib.hid (And.intro hk M3.out.1)
  clear hP M1 M2 M3 hsn hk
  by_cases h0 : 0 ≤ to ∧ to < lim ∧ s.sent < 20
  · have he : VM.sendS lim s st a to y z = { s with stack := st, sent := s.sent + 1, acts := s.acts ++ [⟨3, to, a, y, z⟩] } := by unfold VM.sendS; rw [if_pos h0]
    obtain ⟨h1, h2, h3⟩ := h0
    have HE := Lib.hid he
    clear he
    go_wp2_with (first | (refine RgX.wpList_store_seg rfl 3 _ _ rfl g 40 (.int .i64 (s.sent + 1)) rfl rfl 78 T HP.out.1 HT.out.2 HT.out.1.1 HT.out.1.2.1 (T.setIfInBounds 40 (.int .i64 (s.sent + 1))) HT.out.1.2.2 ?_; intro u3 k3 o3 z3 b3; have M5 := Lib.hid (And.intro (HP.out.sent (s.sent + 1) k3 o3).at_ (And.intro (HP.out.keep o3 b3) (show B ≤ u3.heap.size by omega))); clear k3 o3 z3 b3) | (go_at_call 65; refine (H4.out _ _ M5.out.1 rfl M5.out.2.2).mono ?_; rintro e w4 ⟨⟨v, rfl⟩, m4, k4⟩))
    go_end0
    exact ⟨⟨_, rfl⟩, HE.out ▸ m4, HK.out.1.trans (M5.out.2.1.trans k4)⟩
  · have he : VM.sendS lim s st a to y z = { s with stack := st } := by unfold VM.sendS; rw [if_neg h0]
    have HE := Lib.hid he
    clear he
    have hw : to < 0 ∨ (0 ≤ to ∧ lim ≤ to) ∨ (0 ≤ to ∧ to < lim ∧ 20 ≤ s.sent) := by omega
    clear h0
    rcases hw with h1 | ⟨h1, h2⟩ | ⟨h1, h2, h3⟩
    all_goals
      go_wp2_with fail
      go_end0
      exact ⟨⟨_, rfl⟩, HE.out ▸ HK.out.2, HK.out.1⟩
end Go.Proofs.Ytgdefhlcgmibcaa
