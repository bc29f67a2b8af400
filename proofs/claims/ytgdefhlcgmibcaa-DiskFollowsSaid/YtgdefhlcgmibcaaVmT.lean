/-
  The machine's pop; stores into one of its cells. No condition but the lengths.
-/
import Derived.Test.YtgdefhlcgmibcaaVmS
namespace Go.Proofs.Ytgdefhlcgmibcaa
open Go Go.RowKit Go.Proofs
attribute [local go_sem] Oper.semAt_some

/-- The parts of a machine. -/
def MPt (F : MFix) (B : Nat) (w : World) (g : Nat) (s : VM.St) (T : Array Value) (V K A : Option Addr) (vc kc ac : Nat) : Prop :=
  w.heap[g]? = some (Obj.cells T 78 (0, 0)) ∧ MCells F T s (.slice V s.vars.length vc) (.slice K s.stack.length kc) (.slice A s.acts.length ac) ∧
  w.ownsRow B 3 1 (.slice V s.vars.length vc) s.vars.length (DK.intsC s.vars) ∧ w.ownsRow B 3 1 (.slice K s.stack.length kc) s.stack.length (DK.intsC s.stack) ∧ w.ownsRow B 63 5 (.slice A s.acts.length ac) s.acts.length (VM.acsC s.acts) ∧
  B ≤ g ∧ (∀ b, (Value.slice V s.vars.length vc).ownBlock = some b → (Value.slice K s.stack.length kc).ownBlock ≠ some b)
theorem mst {T : Array Value} (hs : T.size = 42) (j : Nat) (hj : j < 42) (v : Value) (hv : v.cells = #[v]) (h1 : v.oneCell' = true) : j + v.cells.size ≤ T.size ∧ v.cells.all (·.oneCell') = true ∧ T.setIfInBounds j v = (T.toList.take j ++ v.cells.toList ++ T.toList.drop (j + v.cells.size)).toArray :=
  ⟨by rw [hv, hs]; show j + 1 ≤ 42; omega, by rw [hv]; simp [h1], seg_one hv (by omega)⟩
theorem MPt.at_ {F : MFix} {B g : Nat} {w : World} {s : VM.St} {T : Array Value} {V K A : Option Addr} {vc kc ac : Nat} (h : MPt F B w g s T V K A vc kc ac) : MAt F B w g s := ⟨T, V, K, A, vc, kc, ac, h⟩
section
variable {F : MFix} {B g : Nat} {w w' : World} {s : VM.St} {T : Array Value} {V K A : Option Addr} {vc kc ac : Nat}
theorem MPt.next (h : MPt F B w g s T V K A vc kc ac) (x : Int) (k3 : w'.heap[g]? = some (.cells (T.setIfInBounds 37 (.int .i64 x)) 78 (0, 0))) (o3 : ∀ b, b ≠ g → w'.heap[b]? = w.heap[b]?) : MPt F B w' g { s with next := x } (T.setIfInBounds 37 (.int .i64 x)) V K A vc kc ac :=
  ⟨k3, h.2.1.set_next x, own_st h.2.2.1 h.1 o3 ty_im, own_st h.2.2.2.1 h.1 o3 ty_im, own_st h.2.2.2.2.1 h.1 o3 ty_am, h.2.2.2.2.2⟩
theorem MPt.stopped (h : MPt F B w g s T V K A vc kc ac) (x : Bool) (k3 : w'.heap[g]? = some (.cells (T.setIfInBounds 38 (.bool x)) 78 (0, 0))) (o3 : ∀ b, b ≠ g → w'.heap[b]? = w.heap[b]?) : MPt F B w' g { s with stopped := x } (T.setIfInBounds 38 (.bool x)) V K A vc kc ac :=
  ⟨k3, h.2.1.set_stopped x, own_st h.2.2.1 h.1 o3 ty_im, own_st h.2.2.2.1 h.1 o3 ty_im, own_st h.2.2.2.2.1 h.1 o3 ty_am, h.2.2.2.2.2⟩
theorem MPt.sent (h : MPt F B w g s T V K A vc kc ac) (x : Int) (k3 : w'.heap[g]? = some (.cells (T.setIfInBounds 40 (.int .i64 x)) 78 (0, 0))) (o3 : ∀ b, b ≠ g → w'.heap[b]? = w.heap[b]?) : MPt F B w' g { s with sent := x } (T.setIfInBounds 40 (.int .i64 x)) V K A vc kc ac :=
  ⟨k3, h.2.1.set_sent x, own_st h.2.2.1 h.1 o3 ty_im, own_st h.2.2.2.1 h.1 o3 ty_im, own_st h.2.2.2.2.1 h.1 o3 ty_am, h.2.2.2.2.2⟩
theorem MPt.keep (h : MPt F B w g s T V K A vc kc ac) (o3 : ∀ b, b ≠ g → w'.heap[b]? = w.heap[b]?) (b3 : Below g w w') : KeepV B w w' := keepV_st h.1 o3 b3 h.2.2.2.2.2.1
/-- The last of an own row of integers, taken off. -/
theorem own_pop {w : World} {B : Nat} {K : Option Addr} {n c : Nat} {l : List Int} (h : w.ownsRow B 3 1 (.slice K (n + 1) c) (n + 1) (DK.intsC l)) (hl : l.length = n + 1) : w.ownsRow B 3 1 (.slice K n c) n (DK.intsC l.dropLast) := by
  obtain ⟨g, cur, rfl, h0, h1, h2, h3, h4, h5⟩ := own_cells h (by omega)
  refine ⟨?_, .inr ⟨g, c, cur, rfl, h0, h1, by omega, h3, h4, ?_⟩⟩
  · unfold DK.intsC
    simp [hl]
  · have e : cur.toList.take (n * 1) = (cur.toList.take ((n + 1) * 1)).take n := by rw [List.take_take, Nat.min_eq_left (by omega), Nat.mul_one]
    rw [e, h5]
    unfold DK.intsC
    rw [← List.map_take, List.dropLast_eq_take, hl]
    rfl
end
set_option maxHeartbeats 1000000 in
set_option maxRecDepth 100000 in
theorem pop_c {F : MFix} {B g : Nat} {s : VM.St} {w : World} (h : MAt F B w g s) (st : List Int) (x : Int) (hs : s.stack = st ++ [x]) (hl : st.length < 100000) :
    Calls Try.prog 55 #[.pointer (some ⟨g, 0, none⟩)] w fun e w' => e = .returned (.int .i64 x) ∧ MAt F B w' g { s with stack := st } ∧ KeepV B w w' := by
  obtain ⟨T, V, K, A, vc, kc, ac, hP⟩ := h
  have hP : MPt F B w g s T V K A vc kc ac := hP
  obtain ⟨n, hn⟩ : ∃ n, st.length = n := ⟨_, rfl⟩
  have hsl : s.stack.length = n + 1 := by rw [hs, List.length_append, hn]; rfl
  have hcK := mcell hP.1 hP.2.1.stack
  have hoK := hP.2.2.2.1
  rw [hsl] at hcK hoK
  obtain ⟨gk, cur, rfl, _, hgk, hnc, hcm, _, htk⟩ := own_cells hoK (by omega)
  have hcx : w.cell? ⟨gk, n, none⟩ = some (.int .i64 x) := by
    refine cell_of_row w gk n _ _ (0, 0) hgk |>.trans ?_
    have : (cur.toList.take ((n + 1) * 1))[n]? = some (.int .i64 x) := by rw [htk, hs]; unfold DK.intsC; rw [List.map_append, List.getElem?_append_right (by simp [hn])]; simp [hn]
    rw [List.getElem?_take_of_lt (by omega)] at this
    rw [← Array.getElem?_toList]
    exact this
  have HT := Lib.hid (And.intro (mst (T := T) hP.2.1.size 36 (by omega) (.slice (some ⟨gk, 0, none⟩) n kc) rfl rfl) (show (Try.prog.info? 22).map (·.size) = some (Value.slice (some ⟨gk, 0, none⟩) n kc).cells.size from vm_sz_ints))
  have hwr : wrap64 (n : Int) = (n : Int) := by simp only [wrap64]; omega
  have hlt : n < n + 1 := by omega
  have hle : n ≤ kc := by omega
  have HP := Lib.hid hP
  have HS := Lib.hid (And.intro hs (And.intro hn (And.intro hsl hoK)))
  clear hP hs hn hsl hoK hgk htk
  go_enter Try.func55, Try.ntmps55
  go_wp2_with (refine RgX.wpList_store_seg rfl 22 _ _ rfl g 36 (.slice (some ⟨gk, 0, none⟩) n kc) rfl rfl 78 T HP.out.1 HT.out.2 HT.out.1.1 HT.out.1.2.1 (T.setIfInBounds 36 (.slice (some ⟨gk, 0, none⟩) n kc)) HT.out.1.2.2 ?_; intro u3 k3 o3 z3 b3; have H3 := Lib.hid (And.intro k3 (And.intro o3 (And.intro z3 b3))); clear k3 o3 z3 b3)

  obtain ⟨k3, o3, z3, b3⟩ := H3.out
  have hP := HP.out
  obtain ⟨hs, hn, hsl, hoK⟩ := HS.out
  have hd : s.stack.dropLast = st := by rw [hs]; simp
  have ho := own_pop hoK hsl
  rw [hd] at ho
  subst hn
  refine bodyPost_ret (v := .int .i64 x) (by simp [results, Try.results55, go_sem]) rfl ⟨rfl, MPt.at_ (K := some ⟨gk, 0, none⟩) (kc := kc) ⟨k3, hP.2.1.set_stack _ st, own_st hP.2.2.1 hP.1 o3 ty_im, own_st ho hP.1 o3 ty_im, own_st hP.2.2.2.2.1 hP.1 o3 ty_am, hP.2.2.2.2.2.1, ?_⟩, hP.keep o3 b3⟩
  intro b hb hc
  refine hP.2.2.2.2.2.2 b hb ?_
  rw [hsl]
  exact hc
end Go.Proofs.Ytgdefhlcgmibcaa
