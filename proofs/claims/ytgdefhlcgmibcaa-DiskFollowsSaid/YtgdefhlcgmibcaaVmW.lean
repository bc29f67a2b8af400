/-
  The machine's effects that act: set a variable, send. No condition but the lengths.
-/
import Derived.Test.YtgdefhlcgmibcaaVmV
namespace Go.Proofs.Ytgdefhlcgmibcaa
open Go Go.RowKit Go.Proofs
attribute [local go_sem] Oper.semAt_some

/-- What setting a variable leaves. -/
def VM.setS (F : MFix) (s : VM.St) (st : List Int) (a : Nat) (x : Int) : VM.St := { s with stack := st, vars := s.vars.set a x, acts := if (a : Int) < F.dur then s.acts ++ [⟨1, a, x, 0, 0⟩] else s.acts }
/-- What a send leaves: to, a, y, z. -/
def VM.sendS (lim : Int) (s : VM.St) (st : List Int) (a to y z : Int) : VM.St := if 0 ≤ to ∧ to < lim ∧ s.sent < 20 then { s with stack := st, sent := s.sent + 1, acts := s.acts ++ [⟨3, to, a, y, z⟩] } else { s with stack := st }
set_option maxHeartbeats 1000000 in
set_option maxRecDepth 100000 in
theorem set_c {F : MFix} {B g : Nat} {s : VM.St} {w : World} (h : MAt F B w g s) (hB : B ≤ w.heap.size) (a : Nat) (st : List Int) (x : Int) (hs : s.stack = st ++ [x]) (ha : a < s.vars.length) (hv : s.vars.length < 1000) (hl : st.length < 1000) (hc : s.acts.length < 1000) :
    Calls Try.prog 45 #[.pointer (some ⟨g, 0, none⟩), .int .i64 (a : Int)] w fun e w' => (∃ v, e = .returned v) ∧ MAt F B w' g (VM.setS F s st a x) ∧ KeepV B w w' := by
  have H1 := Lib.hid (pop_c h st x hs (by omega))
  have H2 := Lib.hid (fun (w1 : World) (s1 : VM.St) (h1 : MAt F B w1 g s1) (e1 : s1.acts = s.acts) (b1 : B ≤ w1.heap.size) => act_c h1 1 (a : Int) x 0 0 (by rw [e1]; exact hc) b1)
  clear h hs
  go_enter Try.func45, Try.ntmps45
  go_upto_region 1 with (go_at_call 55; refine H1.out.mono ?_; rintro e w1 ⟨rfl, m1, k1⟩; have M1 := Lib.hid (And.intro m1 k1); clear m1 k1 H1)
  obtain ⟨⟨T, V, K, A, vc, kc, ac, hP⟩, hk1⟩ := M1.out
  have hP : MPt F B w1 g { s with stack := st } T V K A vc kc ac := hP
  have hoV := hP.2.2.1
  have hcV := mcell hP.1 hP.2.1.vars
  have hcD := mcell hP.1 hP.2.1.dur
  obtain ⟨gv, cur, rfl, hgB, hgv, hnc, hcm, hsz, htk⟩ := own_cells hoV (show 0 < s.vars.length by omega)
  have haI : (a : Int) < (s.vars.length : Int) := by omega
  have hgne : gv ≠ g := fun e => by subst e; exact ne_ty hoV hP.1 ty_im rfl
  obtain ⟨C', hC'⟩ : ∃ C', C' = (cur.toList.take a ++ (Value.int .i64 x).cells.toList ++ cur.toList.drop (a + (Value.int .i64 x).cells.size)).toArray := ⟨_, rfl⟩
  have HT := Lib.hid (And.intro hC' (And.intro (show a + (Value.int .i64 x).cells.size ≤ cur.size by show a + 1 ≤ _; rw [hsz]; show a + 1 ≤ vc * 1; have : s.vars.length ≤ vc := hnc; omega) (And.intro (show (Value.int .i64 x).cells.all (·.oneCell') = true by simp [Value.cells, Value.oneCell']) (And.intro hgv (show (Try.prog.info? 3).map (·.size) = some (Value.int .i64 x).cells.size from dk_sz_int)))))
  have HP := Lib.hid hP
  have HV := Lib.hid (And.intro hgB (And.intro hnc (And.intro hcm (And.intro hsz htk))))
  have hcD2 : ∀ W' : World, (∀ b, b ≠ gv → W'.heap[b]? = w1.heap[b]?) → W'.cell? ⟨g, 34, none⟩ = some (.int .i64 F.dur) := fun W' ho => mcell ((ho g (fun e => hgne e.symm)).trans HP.out.1) HP.out.2.1.dur
  have HD := Lib.hid hcD2
  clear hP hoV hcD hcD2 hC' hgv hnc hcm hsz htk hgB
  go_upto_region 2 with (refine RgX.wpList_store_seg rfl 3 _ _ rfl gv a (.int .i64 x) rfl rfl 3 cur HT.out.2.2.2.1 HT.out.2.2.2.2 HT.out.2.1 HT.out.2.2.1 C' HT.out.1 ?_; intro u3 k3 o3 z3 b3)
  have hcD := HD.out u3 o3
  have hP := HP.out
  have hset := own_set (W := u3) (base := B) (n := s.vars.length) (c := vc) (l := s.vars) (v := x) HV.out.1 HV.out.2.1 HV.out.2.2.1 HV.out.2.2.2.1 HV.out.2.2.2.2 ha rfl HT.out.1 k3
  have hVK : (Value.slice K st.length kc).ownBlock ≠ some gv := hP.2.2.2.2.2.2 gv rfl
  have m3 : MAt F B u3 g { s with stack := st, vars := s.vars.set a x } := by
    refine ⟨T, some ⟨gv, 0, none⟩, K, A, vc, kc, ac, (o3 g (fun e => hgne e.symm)).trans hP.1, ?_, ?_, own_other' hP.2.2.2.1 o3 hVK, own_other' hP.2.2.2.2.1 o3 (ne_ty hP.2.2.2.2.1 HT.out.2.2.2.1 ty_ia.symm), hP.2.2.2.2.2.1, fun b hb hb2 => ?_⟩
    · have hM := hP.2.1
      show MCells F T _ (.slice _ (s.vars.set a x).length vc) _ _
      rw [List.length_set]
      exact ⟨hM.size, hM.eff, hM.el, hM.ask, hM.names, hM.nl, hM.dur, hM.vars, hM.stack, hM.next, hM.stopped, hM.asked, hM.sent, hM.acts⟩
    · show u3.ownsRow B _ 1 (.slice _ (s.vars.set a x).length vc) (s.vars.set a x).length _
      rw [List.length_set]
      exact hset
    · exact hP.2.2.2.2.2.2 b hb hb2
  have kv3 : KeepV B w1 u3 := ⟨b3.mono HV.out.1, fun b C t hC h1 _ _ => o3 b (fun e => by subst e; rw [HT.out.2.2.2.1] at hC; injection hC with hC; injection hC with _ hC; exact h1 hC.symm)⟩
  have hB3 : B ≤ u3.heap.size := by have := hk1.below.size; omega
  have H3 := Lib.hid (And.intro m3 (And.intro (hk1.trans kv3) (H2.out u3 _ m3 rfl hB3)))
  clear k3 o3 z3 b3 hP hset hVK m3 kv3 hB3 H2
  by_cases hd : (a : Int) < F.dur
  · have dd : decide ((a : Int) < F.dur) = true := decide_eq_true hd
    have he : VM.setS F s st a x = { s with stack := st, vars := s.vars.set a x, acts := s.acts ++ [⟨1, a, x, 0, 0⟩] } := by unfold VM.setS; rw [if_pos hd]
    go_wp2_with (go_at_call 65; refine H3.out.2.2.mono ?_; rintro e w4 ⟨⟨v, rfl⟩, m4, k4⟩)
    go_end0
    exact ⟨⟨_, rfl⟩, he ▸ m4, H3.out.2.1.trans k4⟩
  · have dd : decide ((a : Int) < F.dur) = false := decide_eq_false hd
    have he : VM.setS F s st a x = { s with stack := st, vars := s.vars.set a x } := by unfold VM.setS; rw [if_neg hd]
    go_wp2_with fail
    go_end0
    exact ⟨⟨_, rfl⟩, he ▸ H3.out.1, H3.out.2.1⟩
end Go.Proofs.Ytgdefhlcgmibcaa
