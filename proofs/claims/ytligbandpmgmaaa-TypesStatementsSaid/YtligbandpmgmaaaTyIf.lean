/-
  The contracts of slices.IndexFunc, slices.ContainsFunc and all, for whatever function that decides a property of the trees. No condition on the functions' results.
-/
import Derived.Test.YtligbandpmgmaaaTyTy
namespace Go.Proofs.Ytligbandpmgmaaa
open Go Go.RowKit Go.Proofs Go.Shelf
attribute [local go_sem] Oper.semAt_some

/-- Function g, with R ahead of its arguments and C behind them, answers P of the tree t. -/
def Dec (g : FuncId) (R C : Array Value) (W : World) (hi : Nat) (P : TY.Nd → Bool) (t : TY.Nd) : Prop := ∀ (V : World) (x : Value), Below W.heap.size W V → NdV V hi t x → Calls Try.prog g (R ++ #[x] ++ C) V fun e w' => e = .returned (.bool (P t)) ∧ Below V.heap.size V w'
theorem Dec.under {g : FuncId} {R C : Array Value} {W W' : World} {hi : Nat} {P : TY.Nd → Bool} {t : TY.Nd} (h : Dec g R C W hi P t) (hb : Below W.heap.size W W') : Dec g R C W' hi P t := fun V x hV hx => h V x (hb.trans (hV.mono hb.size)) hx
theorem any_take_snoc {l : List TY.Nd} {P : TY.Nd → Bool} {j : Nat} {t : TY.Nd} (ht : l[j]? = some t) (h : (l.take j).any P = false) (e : P t = false) : (l.take (j + 1)).any P = false := by
  rw [List.take_add_one, ht, List.any_append, h]
  simp [e]
set_option maxHeartbeats 2000000 in
theorem indexFunc_any {g : FuncId} {C : Array Value} (eg : ∀ args w, (callFunc g args).run Try.prog w = .ok (.enter g args) w) {P : TY.Nd → Bool} {k n : Int} {s : ByteArray} {l : List TY.Nd} (W : World) (hi : Nat) (v : Value) (hv : NdV W hi (.mk k n s l) v) (hh : hi ≤ W.heap.size) (hP : ∀ t ∈ l, Dec g #[] C W hi P t) (A : Option Addr) (c : Nat) (hvA : v = ndv k n s (.slice A l.length c)) :
    Calls Try.prog 30 #[.slice A l.length c, .func (.func g) #[] C] W fun e w' => ∃ z : Int, e = .returned (.int .i64 z) ∧ decide (z ≥ 0) = l.any P ∧ Below W.heap.size W w' := by
  obtain ⟨A', c', vs, e, hvl, hlc, hcm, hlm, _, hkd, hkids⟩ := hv.open_
  rw [hvA] at e
  injection e with e
  injection e with e
  injection e with _ e
  injection e with _ e
  injection e with _ e
  injection e with e _
  injection e with eA _ ec
  subst eA ec
  clear hvA hv
  obtain ⟨m, hm⟩ : ∃ m, l.length = m := ⟨_, rfl⟩
  have HM := Lib.hid hm
  rw [hm] at hlc hlm hvl ⊢
  have HVL := Lib.hid hvl
  have HKD := Lib.hid hkd
  have HKI := Lib.hid hkids
  have HP := Lib.hid hP
  clear hm hvl hkd hkids hP
  go_enter Try.func30, Try.ntmps30
  go_wp2_with fail
  go_loopw [8] (fun i V => ∃ j : Nat, j ≤ m ∧ i = .int .i64 (j : Int) ∧ Hid ((l.take j).any P = false) ∧ Hid (Below W.heap.size W V)) (fun i _ => m - (intOf i).toNat)
  case atStart => exact ⟨0, by omega, rfl, (show (l.take 0).any P = false from rfl), Below.refl _ _⟩
  case round =>
    obtain ⟨j, hj, rfl, hT, hBl⟩ := hrel
    by_cases hjm : j < m
    · obtain ⟨t, ht⟩ : ∃ t, l[j]? = some t := ⟨l[j]'(by rw [HM.out]; exact hjm), List.getElem?_eq_getElem (by rw [HM.out]; exact hjm)⟩
      obtain ⟨vj, hvj⟩ : ∃ x, vs[j]? = some x := ⟨vs[j]'(by rw [HVL.out]; exact hjm), List.getElem?_eq_getElem (by rw [HVL.out]; exact hjm)⟩
      have hnv := HKI.out j t vj ht hvj
      obtain ⟨b, off, kj, nj, sj, Aj, lj, cj, rfl, hbh, rfl, c0, c1, c2', c3⟩ := HKD.out.tree hvj hnv
      have hbW : b < W.heap.size := by omega
      have e0 := (hBl.out.cell (p := ⟨b, off + j * 4, none⟩) hbW).trans c0
      have e1 := (hBl.out.cell (p := ⟨b, off + j * 4 + 1, none⟩) hbW).trans c1
      have e2 := (hBl.out.cell (p := ⟨b, off + j * 4 + 2, none⟩) hbW).trans c2'
      have e3 := (hBl.out.cell (p := ⟨b, off + j * 4 + 3, none⟩) hbW).trans c3
      have hcall := HP.out t (List.mem_of_getElem? ht) wr _ hBl.out (hnv.under (hBl.out.mono hh) (Nat.le_refl _))
      have HSN := Lib.hid (fun e => any_take_snoc ht hT.out e)
      have HYE := Lib.hid (show P t = true → l.any P = true from fun e => List.any_eq_true.2 ⟨t, List.mem_of_getElem? ht, e⟩)
      obtain ⟨y, hy⟩ : ∃ y, P t = y := ⟨_, rfl⟩
      rw [hy] at HSN HYE hcall
      have hcall : Calls Try.prog g (#[ndv kj nj sj (.slice Aj lj cj)] ++ C) wr fun e w' => e = .returned (.bool y) ∧ Below wr.heap.size wr w' := by simpa using hcall
      have HC := Lib.hid hcall
      have hszl := hBl.out.size
      clear hnv c0 c1 c2' c3 ht hvj hy hcall
      cases y
      · go_wp2_with (first
          | (refine HC.out.mono ?_; clear HC; rintro e w2 ⟨rfl, hb2⟩; have HB2 := Lib.hid (hBl.out.trans (hb2.mono hBl.out.size)); clear hb2))
        go_roundw
        case rel => exact ⟨j + 1, by omega, by go_num, HSN.out (by simp), HB2.out⟩
        case measure => simp [intOf]; omega
      · go_wp2_with (first
          | (refine HC.out.mono ?_; clear HC; rintro e w2 ⟨rfl, hb2⟩; have HB2 := Lib.hid (hBl.out.trans (hb2.mono hBl.out.size)); clear hb2))
        go_ret
        exact ⟨_, rfl, by rw [HYE.out (by simp)]; simp, HB2.out⟩
    · obtain rfl : j = m := by omega
      have HY := Lib.hid (show l.any P = false by
        have := hT.out
        rwa [List.take_of_length_le (by rw [HM.out]; exact Nat.le_refl _)] at this)
      go_wp2_with fail
      go_ret
      exact ⟨_, rfl, by rw [HY.out]; decide, hBl.out⟩
set_option maxHeartbeats 2000000 in
theorem containsFunc_any {g : FuncId} {C : Array Value} (eg : ∀ args w, (callFunc g args).run Try.prog w = .ok (.enter g args) w) {P : TY.Nd → Bool} {k n : Int} {s : ByteArray} {l : List TY.Nd} (W : World) (hi : Nat) (v : Value) (hv : NdV W hi (.mk k n s l) v) (hh : hi ≤ W.heap.size) (hP : ∀ t ∈ l, Dec g #[] C W hi P t) (A : Option Addr) (c : Nat) (hvA : v = ndv k n s (.slice A l.length c)) :
    Calls Try.prog 24 #[.slice A l.length c, .func (.func g) #[] C] W fun e w' => e = .returned (.bool (l.any P)) ∧ Below W.heap.size W w' := by
  have HI := Lib.hid (indexFunc_any eg W hi v hv hh hP A c hvA)
  obtain ⟨y, hy⟩ : ∃ y, l.any P = y := ⟨_, rfl⟩
  rw [hy] at HI ⊢
  clear hv hP hvA hy
  go_enter Try.func24, Try.ntmps24
  go_wp2_with (first
    | (go_at_call 30; refine HI.out.mono ?_; clear HI; rintro e w2 ⟨z, rfl, hz, hb2⟩))
  go_ret
  exact ⟨rfl, hb2⟩
/-- A box that holds a function. -/
def FBox (W : World) (B : Nat) (F : Value) : Prop := W.heap[B]? = some (.cells #[F] 52 (0, 0))
set_option maxHeartbeats 2000000 in
theorem allC_any {g : FuncId} {R C : Array Value} (eg : ∀ args w, (callFunc g args).run Try.prog w = .ok (.enter g args) w) {P : TY.Nd → Bool} {t : TY.Nd} (W : World) (hi B : Nat) (hP : Dec g R C W hi P t) (hB : FBox W B (.func (.func g) R C)) (hlt : B < W.heap.size) (hh : hi ≤ W.heap.size) : Dec 29 #[] #[.pointer (some ⟨B, 0, none⟩)] W hi (fun t => !P t) t := by
  intro V v hV hv
  obtain ⟨k, n, s, l⟩ := t
  obtain ⟨A, c, vs, rfl, _⟩ := hv.open_
  obtain ⟨W1, hW1⟩ : ∃ U, V.alloc (.cells #[.int .i64 k, .int .i64 n, .string s, .slice A l.length c] 25) = U := ⟨_, rfl⟩
  have hb1 : Below V.heap.size V W1 := by rw [← hW1]; exact (Below.refl _ _).alloc (Nat.le_refl _) _
  have hs := hV.size
  have hc := hP W1 _ (hV.trans (hb1.mono hs)) (hv.under (hb1.mono (by omega)) (Nat.le_refl _))
  have hc0 := cell_of_row W1 B 0 _ _ (0, 0) ((hb1.block B (by omega)).trans ((hV.block B hlt).trans hB))
  have c0 : W1.cell? ⟨B, 0, none⟩ = some (.func (.func g) R C) := hc0
  have ho := World.alloc_heap_new V (.cells #[.int .i64 k, .int .i64 n, .string s, .slice A l.length c] 25)
  rw [hW1] at ho
  have d0 : W1.cell? ⟨V.heap.size, 0, none⟩ = some (.int .i64 k) := cell_of_row W1 _ 0 _ _ (0, 0) ho
  have d1 : W1.cell? ⟨V.heap.size, 1, none⟩ = some (.int .i64 n) := cell_of_row W1 _ 1 _ _ (0, 0) ho
  have d2 : W1.cell? ⟨V.heap.size, 2, none⟩ = some (.string s) := cell_of_row W1 _ 2 _ _ (0, 0) ho
  have d3 : W1.cell? ⟨V.heap.size, 3, none⟩ = some (.slice A l.length c) := cell_of_row W1 _ 3 _ _ (0, 0) ho
  obtain ⟨y, hy⟩ : ∃ y, P (.mk k n s l) = y := ⟨_, rfl⟩
  rw [hy] at hc
  show Calls _ _ _ _ fun e w' => e = .returned (.bool (!P (.mk k n s l))) ∧ Below V.heap.size V w'
  rw [hy]
  have HC := Lib.hid hc
  have HB1 := Lib.hid hb1
  have HW1 := Lib.hid hW1
  rw [← hW1] at c0 d0 d1 d2 d3
  clear hc hb1 hW1 hc0 ho hP hV hv hB hy
  go_enter Try.func29, Try.ntmps29
  go_wp2_with (first
    | (rw [HW1.out]; refine HC.out.mono ?_; clear HC; rintro e w2 ⟨rfl, hb2⟩))
  go_ret
  exact ⟨rfl, HB1.out.trans (hb2.mono HB1.out.size)⟩
set_option maxHeartbeats 2000000 in
theorem all_any {g : FuncId} {R C : Array Value} (eg : ∀ args w, (callFunc g args).run Try.prog w = .ok (.enter g args) w) {P : TY.Nd → Bool} {k n : Int} {s : ByteArray} {l : List TY.Nd} (W : World) (hi : Nat) (v : Value) (hv : NdV W hi (.mk k n s l) v) (hh : hi ≤ W.heap.size) (hP : ∀ t ∈ l, Dec g R C W hi P t) (A : Option Addr) (c : Nat) (hvA : v = ndv k n s (.slice A l.length c)) :
    Calls Try.prog 21 #[.slice A l.length c, .func (.func g) R C] W fun e w' => e = .returned (.bool (l.all P)) ∧ Below W.heap.size W w' := by
  obtain ⟨W1, hW1⟩ : ∃ U, W.alloc (.cells #[.func (.func g) R C] 52) = U := ⟨_, rfl⟩
  have hb1 : Below W.heap.size W W1 := by rw [← hW1]; exact (Below.refl _ _).alloc (Nat.le_refl _) _
  have z1 : W1.heap.size = W.heap.size + 1 := by rw [← hW1, World.size_alloc]
  have hbx : FBox W1 W.heap.size (.func (.func g) R C) := by
    unfold FBox
    rw [← hW1]
    exact World.alloc_heap_new W _
  have hc := containsFunc_any (enters_of Try.func29 (by kernel_rfl) rfl) W1 hi v (hv.under (hb1.mono hh) (Nat.le_refl _)) (by omega) (fun t ht => allC_any eg W1 hi W.heap.size ((hP t ht).under hb1) hbx (by omega) (by omega)) A c hvA
  have he : (!(l.any fun t => !P t)) = l.all P := by rw [List.not_any_eq_all_not]; simp
  obtain ⟨y, hy⟩ : ∃ y, (l.any fun t => !P t) = y := ⟨_, rfl⟩
  rw [← he]
  rw [hy] at hc ⊢
  have HC := Lib.hid hc
  have HB1 := Lib.hid hb1
  have HW1 := Lib.hid hW1
  clear hc hb1 hW1 hP hv he hy hbx z1 hvA
  go_enter Try.func21, Try.ntmps21
  go_wp2_with (first
    | (rw [HW1.out]; go_at_call 24; refine HC.out.mono ?_; clear HC; rintro e w2 ⟨rfl, hb2⟩))
  go_ret
  exact ⟨rfl, HB1.out.trans (hb2.mono HB1.out.size)⟩
end Go.Proofs.Ytligbandpmgmaaa
