/-
  The reference's source: expr, one level: given what it does one level down. Condition: the source lies in a block of its own.
-/
import Derived.Test.YtligbandpmgmaaaTyEx
namespace Go.Proofs.Ytligbandpmgmaaa
open Go Go.RowKit Go.Proofs Go.Shelf
attribute [local go_sem] Oper.semAt_some

theorem nx {W V : World} {lo b i : Nat} {L : List Int} (h : Ex W V lo b L i) (hi : i ≤ 1000000000) (m x : Nat) (mi : Int) (hm : 0 < m) (hm2 : m ≤ 1000) (hmi : (m : Int) = mi) (hx : TY.nxt L i m = x) :
    Calls Try.prog 12 #[.pointer (some ⟨b, 0, none⟩), .int .i64 mi] V fun e w' => e = .returned (.int .i64 (x : Int)) ∧ Ex W w' lo b L (i + 1) ∧ Chg (· = b) V w' := by
  subst hmi hx
  exact (next_any V lo b L i m h.src hi hm hm2).mono fun e w' ⟨h1, h2, h3⟩ => ⟨h1, h.step h2 h3, h3⟩
theorem pk {W V : World} {lo b i : Nat} {L : List Int} (h : Ex W V lo b L i) (hi : i ≤ 1000000000) (C : Array Value) (l : List ByteArray) (m : Nat) (hm : 0 < m) (hm2 : m ≤ 1000) (hc : ∀ j, j < m → C[j]? = some (.string (TY.pick l j))) {s : ByteArray} (hs : TY.pick l (TY.nxt L i m) = s) :
    Calls Try.prog 19 #[.pointer (some ⟨b, 0, none⟩), .slice (some ⟨V.heap.size, 0, none⟩) m m] (V.alloc (.cells C 9)) fun e w' => e = .returned (.string s) ∧ Ex W w' lo b L (i + 1) ∧ Chg (· = b) V w' := by
  subst hs
  have hlt := h.lt
  have hbig := h.big
  refine (pick_any (V.alloc (.cells C 9)) lo b L i (h.alloc _).src hi V.heap.size (by omega) C (World.alloc_heap_new V _) l m hm hm2 hc).mono ?_
  rintro e w' ⟨h1, h2, h3⟩
  exact ⟨h1, (h.alloc _).step h2 h3, ((Chg.refl (· = b) V).alloc _).trans h3 fun _ _ e => e⟩
/-- What expr does at the depth d. -/
def EAt (L : List Int) (d : Int) (sub : Nat → Nat → TY.Nd × Nat) (e : Nat) : Prop := ∀ (W : World) (lo b i want : Nat) (wi : Int), (want : Int) = wi → SrcV W lo b L i → i + e ≤ 1000000000 → (want = 1 ∨ want = 2) →
  Calls Try.prog 11 #[.pointer (some ⟨b, 0, none⟩), .int .i64 wi, .int .i64 d] W fun r w' => ∃ v, r = .returned v ∧ Nw W.heap.size w' (sub want i).1 v ∧ SrcV w' lo b L (sub want i).2 ∧ (sub want i).2 ≤ i + e ∧ Chg (· = b) W w'
theorem genF_way {L : List Int} {deep : Bool} {sub : Nat → Nat → TY.Nd × Nat} {want i x k f : Nat} (hx : TY.nxt L i 24 = x) (hk : TY.nxt L (i + 1) 6 = k) (hf : (if x = 5 then 3 - want else want) = f) : TY.genF L deep sub want i = if f = 2 then TY.genB L deep sub k (i + 2) else TY.genI L deep sub k (i + 2) := by
  unfold TY.genF TY.flip
  rw [hx, hk, hf]
theorem sb {W V : World} {lo b i e : Nat} {L : List Int} {d : Int} {sub : Nat → Nat → TY.Nd × Nat} (hE : EAt L d sub e) (h : Ex W V lo b L i) (hi : i + e ≤ 1000000000) (t : Nat) (ti : Int) (hti : (t : Int) = ti) (ht : t = 1 ∨ t = 2) {t1 : TY.Nd} {j1 : Nat} (hs : sub t i = (t1, j1)) :
    Calls Try.prog 11 #[.pointer (some ⟨b, 0, none⟩), .int .i64 ti, .int .i64 d] V fun r w' => ∃ (k n : Int) (s : ByteArray) (A : Option Addr) (m c : Nat), r = .returned (ndv k n s (.slice A m c)) ∧ Nw V.heap.size w' t1 (ndv k n s (.slice A m c)) ∧ Ex W w' lo b L j1 ∧ j1 ≤ i + e ∧ Chg (· = b) V w' := by
  refine (hE V lo b i t ti hti h.src hi ht).mono ?_
  rw [hs]
  rintro r w' ⟨v, h1, h2, h3, h4, h5⟩
  obtain ⟨k, n, s, A, m, c, rfl⟩ := h2.shape
  exact ⟨k, n, s, A, m, c, h1, h2, h.step h3 h5, h4, h5⟩
theorem one_eq {sub : Nat → Nat → TY.Nd × Nat} {k : Int} {s : ByteArray} {t i : Nat} {t1 : TY.Nd} {j1 : Nat} (h1 : sub t i = (t1, j1)) : TY.one sub k s t i = (.mk k 0 s [t1], j1) := by
  unfold TY.one
  simp only [h1]
theorem two_eq {sub : Nat → Nat → TY.Nd × Nat} {s : ByteArray} {t i : Nat} {t1 t2 : TY.Nd} {j1 j2 : Nat} (h1 : sub t i = (t1, j1)) (h2 : sub t j1 = (t2, j2)) : TY.two sub s t i = (.mk 18 0 s [t1, t2], j2) := by
  unfold TY.two
  simp only [h1, h2]
theorem pick_small {l : List ByteArray} (h : (l.all fun s => decide (s.size ≤ 1000)) = true) {n : Nat} (hn : n < l.length) : (TY.pick l n).size ≤ 1000 := by
  have := List.all_eq_true.1 h _ (TY.pick_mem hn)
  rwa [decide_eq_true_iff] at this
theorem name_small (y : Nat) : (TY.vName y).size ≤ 1000 := by
  show 2 ≤ 1000
  decide
theorem nameY (y : Nat) (hy : y < 10) (V : World) : Calls Try.prog 17 #[.int .i64 (y : Int)] V fun e w' => e = .returned (.string (TY.vName y)) ∧ w' = V := by
  have h := Name_any (y : Int) ⟨by omega, by omega⟩ V
  have e : around (y : Int) 10 = (y : Int) := by
    unfold around
    rw [if_neg (by omega), Int.emod_eq_of_lt (by omega) (by omega)]
  rw [e, Int.toNat_natCast] at h
  exact h
set_option maxRecDepth 100000 in
set_option maxHeartbeats 40000000 in
theorem expr_leaf (L : List Int) (sub : Nat → Nat → TY.Nd × Nat) : EAt L 0 (TY.genF L false sub) 3 := by
  intro W lo b i want wi hwi hs hi hw
  subst hwi
  obtain ⟨x, hx⟩ : ∃ x, TY.nxt L i 24 = x := ⟨_, rfl⟩
  obtain ⟨k, hk⟩ : ∃ k, TY.nxt L (i + 1) 6 = k := ⟨_, rfl⟩
  have hk6 : k < 6 := hk ▸ TY.nxt_lt _ _ (by decide)
  obtain ⟨W0, hW0⟩ : ∃ U, W.alloc (.cells #[.int .i64 0, .int .i64 0, .string ⟨#[]⟩, .slice none 0 0] 25) = U := ⟨_, rfl⟩
  have X0 : Ex W W0 lo b L i := hW0 ▸ Ex.begin hs
  have N1 := Lib.hid (nx X0 (by omega) 24 x 24 (by decide) (by decide) rfl hx)
  have N2 := Lib.hid (fun V (h : Ex W V lo b L (i + 1)) => nx h (by omega) 6 k 6 (by decide) (by decide) rfl hk)
  have HW0 := Lib.hid hW0
  clear hs hW0 X0
  have hk' : k = 0 ∨ k = 1 ∨ k = 2 ∨ k = 3 ∨ k = 4 ∨ k = 5 := by omega
  clear hk6
  by_cases h5 : x = 5
  · subst h5
    rcases hw with rfl | rfl
    · rw [genF_way (f := 2) hx hk (by decide)]
      rw [if_pos rfl]
      clear hx hk
      rcases hk' with rfl | rfl | rfl | rfl | rfl | rfl
      · obtain ⟨y, hy⟩ : ∃ y, TY.nxt L (i + 2) 2 = y := ⟨_, rfl⟩
        have N3 := Lib.hid (fun V (h : Ex W V lo b L (i + 2)) => nx h (by omega) 2 y 2 (by decide) (by decide) rfl hy)
        have hG : TY.genB L false sub 0 (i + 2) = (.mk 13 (y : Int) TY.eps [], i + 3) := by rw [← hy]; rfl
        rw [hG]
        clear hy hG
        go_enter Try.func11, Try.ntmps11
        go_wp2_with (first
          | (rw [HW0.out]; go_at_call 12; refine N1.out.mono ?_; clear N1; rintro e w1 ⟨rfl, X1, C1⟩; replace X1 := Lib.hid X1; clear C1)
          | (go_at_call 12; refine (N2.out _ X1.out).mono ?_; clear N2; rintro e w2 ⟨rfl, X2, C2⟩; replace X2 := Lib.hid X2; clear C2)
          | (go_at_call 12; refine (N3.out _ X2.out).mono ?_; clear N3; rintro e w3 ⟨rfl, X3, C3⟩; replace X3 := Lib.hid X3; clear C3; obtain ⟨q0, q1, q2, q3, p0, p1, p2, p3⟩ := X3.out.cells))
        obtain ⟨U, hU⟩ : ∃ U, (((w3.setCell ⟨W.heap.size, 0, none⟩ (.int .i64 13)).setCell ⟨W.heap.size, 1, none⟩ (.int .i64 (y : Int))).setCell ⟨W.heap.size, 2, none⟩ (.string ⟨#[]⟩)).setCell ⟨W.heap.size, 3, none⟩ (.slice none 0 0) = U := ⟨_, rfl⟩
        rw [hU]
        obtain ⟨f1, f2, f3, f4⟩ := X3.out.fin 13 (y : Int) ⟨#[]⟩ (.slice none 0 0) (Nw.leaf _ _ _ _ _ (by decide)) hU
        refine bodyPost_ret (ret_N rfl _ rfl f1) rfl ?_
        exact ⟨_, rfl, f2, f3, by omega, f4⟩
      · obtain ⟨y, hy⟩ : ∃ y, TY.nxt L (i + 2) 2 = y := ⟨_, rfl⟩
        have N3 := Lib.hid (fun V (h : Ex W V lo b L (i + 2)) => nx h (by omega) 2 y 2 (by decide) (by decide) rfl hy)
        have hG : TY.genB L false sub 1 (i + 2) = (.mk 13 (y : Int) TY.eps [], i + 3) := by rw [← hy]; rfl
        rw [hG]
        clear hy hG
        go_enter Try.func11, Try.ntmps11
        go_wp2_with (first
          | (rw [HW0.out]; go_at_call 12; refine N1.out.mono ?_; clear N1; rintro e w1 ⟨rfl, X1, C1⟩; replace X1 := Lib.hid X1; clear C1)
          | (go_at_call 12; refine (N2.out _ X1.out).mono ?_; clear N2; rintro e w2 ⟨rfl, X2, C2⟩; replace X2 := Lib.hid X2; clear C2)
          | (go_at_call 12; refine (N3.out _ X2.out).mono ?_; clear N3; rintro e w3 ⟨rfl, X3, C3⟩; replace X3 := Lib.hid X3; clear C3; obtain ⟨q0, q1, q2, q3, p0, p1, p2, p3⟩ := X3.out.cells))
        obtain ⟨U, hU⟩ : ∃ U, (((w3.setCell ⟨W.heap.size, 0, none⟩ (.int .i64 13)).setCell ⟨W.heap.size, 1, none⟩ (.int .i64 (y : Int))).setCell ⟨W.heap.size, 2, none⟩ (.string ⟨#[]⟩)).setCell ⟨W.heap.size, 3, none⟩ (.slice none 0 0) = U := ⟨_, rfl⟩
        rw [hU]
        obtain ⟨f1, f2, f3, f4⟩ := X3.out.fin 13 (y : Int) ⟨#[]⟩ (.slice none 0 0) (Nw.leaf _ _ _ _ _ (by decide)) hU
        refine bodyPost_ret (ret_N rfl _ rfl f1) rfl ?_
        exact ⟨_, rfl, f2, f3, by omega, f4⟩
      · obtain ⟨y, hy⟩ : ∃ y, TY.nxt L (i + 2) 2 = y := ⟨_, rfl⟩
        have N3 := Lib.hid (fun V (h : Ex W V lo b L (i + 2)) => nx h (by omega) 2 y 2 (by decide) (by decide) rfl hy)
        have hG : TY.genB L false sub 2 (i + 2) = (.mk 13 (y : Int) TY.eps [], i + 3) := by rw [← hy]; rfl
        rw [hG]
        clear hy hG
        go_enter Try.func11, Try.ntmps11
        go_wp2_with (first
          | (rw [HW0.out]; go_at_call 12; refine N1.out.mono ?_; clear N1; rintro e w1 ⟨rfl, X1, C1⟩; replace X1 := Lib.hid X1; clear C1)
          | (go_at_call 12; refine (N2.out _ X1.out).mono ?_; clear N2; rintro e w2 ⟨rfl, X2, C2⟩; replace X2 := Lib.hid X2; clear C2)
          | (go_at_call 12; refine (N3.out _ X2.out).mono ?_; clear N3; rintro e w3 ⟨rfl, X3, C3⟩; replace X3 := Lib.hid X3; clear C3; obtain ⟨q0, q1, q2, q3, p0, p1, p2, p3⟩ := X3.out.cells))
        obtain ⟨U, hU⟩ : ∃ U, (((w3.setCell ⟨W.heap.size, 0, none⟩ (.int .i64 13)).setCell ⟨W.heap.size, 1, none⟩ (.int .i64 (y : Int))).setCell ⟨W.heap.size, 2, none⟩ (.string ⟨#[]⟩)).setCell ⟨W.heap.size, 3, none⟩ (.slice none 0 0) = U := ⟨_, rfl⟩
        rw [hU]
        obtain ⟨f1, f2, f3, f4⟩ := X3.out.fin 13 (y : Int) ⟨#[]⟩ (.slice none 0 0) (Nw.leaf _ _ _ _ _ (by decide)) hU
        refine bodyPost_ret (ret_N rfl _ rfl f1) rfl ?_
        exact ⟨_, rfl, f2, f3, by omega, f4⟩
      · obtain ⟨y, hy⟩ : ∃ y, TY.nxt L (i + 2) 2 = y := ⟨_, rfl⟩
        have N3 := Lib.hid (fun V (h : Ex W V lo b L (i + 2)) => nx h (by omega) 2 y 2 (by decide) (by decide) rfl hy)
        have hG : TY.genB L false sub 3 (i + 2) = (.mk 13 (y : Int) TY.eps [], i + 3) := by rw [← hy]; rfl
        rw [hG]
        clear hy hG
        go_enter Try.func11, Try.ntmps11
        go_wp2_with (first
          | (rw [HW0.out]; go_at_call 12; refine N1.out.mono ?_; clear N1; rintro e w1 ⟨rfl, X1, C1⟩; replace X1 := Lib.hid X1; clear C1)
          | (go_at_call 12; refine (N2.out _ X1.out).mono ?_; clear N2; rintro e w2 ⟨rfl, X2, C2⟩; replace X2 := Lib.hid X2; clear C2)
          | (go_at_call 12; refine (N3.out _ X2.out).mono ?_; clear N3; rintro e w3 ⟨rfl, X3, C3⟩; replace X3 := Lib.hid X3; clear C3; obtain ⟨q0, q1, q2, q3, p0, p1, p2, p3⟩ := X3.out.cells))
        obtain ⟨U, hU⟩ : ∃ U, (((w3.setCell ⟨W.heap.size, 0, none⟩ (.int .i64 13)).setCell ⟨W.heap.size, 1, none⟩ (.int .i64 (y : Int))).setCell ⟨W.heap.size, 2, none⟩ (.string ⟨#[]⟩)).setCell ⟨W.heap.size, 3, none⟩ (.slice none 0 0) = U := ⟨_, rfl⟩
        rw [hU]
        obtain ⟨f1, f2, f3, f4⟩ := X3.out.fin 13 (y : Int) ⟨#[]⟩ (.slice none 0 0) (Nw.leaf _ _ _ _ _ (by decide)) hU
        refine bodyPost_ret (ret_N rfl _ rfl f1) rfl ?_
        exact ⟨_, rfl, f2, f3, by omega, f4⟩
      · obtain ⟨y, hy⟩ : ∃ y, TY.nxt L (i + 2) 2 = y := ⟨_, rfl⟩
        have N3 := Lib.hid (fun V (h : Ex W V lo b L (i + 2)) => nx h (by omega) 2 y 2 (by decide) (by decide) rfl hy)
        have hG : TY.genB L false sub 4 (i + 2) = (.mk 13 (y : Int) TY.eps [], i + 3) := by rw [← hy]; rfl
        rw [hG]
        clear hy hG
        go_enter Try.func11, Try.ntmps11
        go_wp2_with (first
          | (rw [HW0.out]; go_at_call 12; refine N1.out.mono ?_; clear N1; rintro e w1 ⟨rfl, X1, C1⟩; replace X1 := Lib.hid X1; clear C1)
          | (go_at_call 12; refine (N2.out _ X1.out).mono ?_; clear N2; rintro e w2 ⟨rfl, X2, C2⟩; replace X2 := Lib.hid X2; clear C2)
          | (go_at_call 12; refine (N3.out _ X2.out).mono ?_; clear N3; rintro e w3 ⟨rfl, X3, C3⟩; replace X3 := Lib.hid X3; clear C3; obtain ⟨q0, q1, q2, q3, p0, p1, p2, p3⟩ := X3.out.cells))
        obtain ⟨U, hU⟩ : ∃ U, (((w3.setCell ⟨W.heap.size, 0, none⟩ (.int .i64 13)).setCell ⟨W.heap.size, 1, none⟩ (.int .i64 (y : Int))).setCell ⟨W.heap.size, 2, none⟩ (.string ⟨#[]⟩)).setCell ⟨W.heap.size, 3, none⟩ (.slice none 0 0) = U := ⟨_, rfl⟩
        rw [hU]
        obtain ⟨f1, f2, f3, f4⟩ := X3.out.fin 13 (y : Int) ⟨#[]⟩ (.slice none 0 0) (Nw.leaf _ _ _ _ _ (by decide)) hU
        refine bodyPost_ret (ret_N rfl _ rfl f1) rfl ?_
        exact ⟨_, rfl, f2, f3, by omega, f4⟩
      · obtain ⟨y, hy⟩ : ∃ y, TY.nxt L (i + 2) 2 = y := ⟨_, rfl⟩
        have N3 := Lib.hid (fun V (h : Ex W V lo b L (i + 2)) => nx h (by omega) 2 y 2 (by decide) (by decide) rfl hy)
        have hG : TY.genB L false sub 5 (i + 2) = (.mk 13 (y : Int) TY.eps [], i + 3) := by rw [← hy]; rfl
        rw [hG]
        clear hy hG
        go_enter Try.func11, Try.ntmps11
        go_wp2_with (first
          | (rw [HW0.out]; go_at_call 12; refine N1.out.mono ?_; clear N1; rintro e w1 ⟨rfl, X1, C1⟩; replace X1 := Lib.hid X1; clear C1)
          | (go_at_call 12; refine (N2.out _ X1.out).mono ?_; clear N2; rintro e w2 ⟨rfl, X2, C2⟩; replace X2 := Lib.hid X2; clear C2)
          | (go_at_call 12; refine (N3.out _ X2.out).mono ?_; clear N3; rintro e w3 ⟨rfl, X3, C3⟩; replace X3 := Lib.hid X3; clear C3; obtain ⟨q0, q1, q2, q3, p0, p1, p2, p3⟩ := X3.out.cells))
        obtain ⟨U, hU⟩ : ∃ U, (((w3.setCell ⟨W.heap.size, 0, none⟩ (.int .i64 13)).setCell ⟨W.heap.size, 1, none⟩ (.int .i64 (y : Int))).setCell ⟨W.heap.size, 2, none⟩ (.string ⟨#[]⟩)).setCell ⟨W.heap.size, 3, none⟩ (.slice none 0 0) = U := ⟨_, rfl⟩
        rw [hU]
        obtain ⟨f1, f2, f3, f4⟩ := X3.out.fin 13 (y : Int) ⟨#[]⟩ (.slice none 0 0) (Nw.leaf _ _ _ _ _ (by decide)) hU
        refine bodyPost_ret (ret_N rfl _ rfl f1) rfl ?_
        exact ⟨_, rfl, f2, f3, by omega, f4⟩
    · rw [genF_way (f := 1) hx hk (by decide)]
      rw [if_neg (by decide)]
      clear hx hk
      rcases hk' with rfl | rfl | rfl | rfl | rfl | rfl
      · obtain ⟨y, hy⟩ : ∃ y, TY.nxt L (i + 2) 10 = y := ⟨_, rfl⟩
        have hy10 : y < 10 := hy ▸ TY.nxt_lt _ _ (by decide)
        have N3 := Lib.hid (fun V (h : Ex W V lo b L (i + 2)) => nx h (by omega) 10 y 10 (by decide) (by decide) rfl hy)
        have N4 := Lib.hid (fun V => nameY y hy10 V)
        have hG : TY.genI L false sub 0 (i + 2) = (.mk 14 0 (TY.vName y) [], i + 3) := by rw [← hy]; rfl
        rw [hG]
        have hz := name_small y
        obtain ⟨z, hzz⟩ : ∃ z, TY.vName y = z := ⟨_, rfl⟩
        rw [hzz] at N4 hz ⊢
        clear hy hG hzz
        go_enter Try.func11, Try.ntmps11
        go_wp2_with (first
          | (rw [HW0.out]; go_at_call 12; refine N1.out.mono ?_; clear N1; rintro e w1 ⟨rfl, X1, C1⟩; replace X1 := Lib.hid X1; clear C1)
          | (go_at_call 12; refine (N2.out _ X1.out).mono ?_; clear N2; rintro e w2 ⟨rfl, X2, C2⟩; replace X2 := Lib.hid X2; clear C2)
          | (go_at_call 12; refine (N3.out _ X2.out).mono ?_; clear N3; rintro e w3 ⟨rfl, X3, C3⟩; replace X3 := Lib.hid X3; clear C3; obtain ⟨q0, q1, q2, q3, p0, p1, p2, p3⟩ := X3.out.cells)
          | (go_at_call 17; refine (N4.out _).mono ?_; clear N4; rintro e w4 ⟨rfl, rfl⟩))
        obtain ⟨U, hU⟩ : ∃ U, (((w4.setCell ⟨W.heap.size, 0, none⟩ (.int .i64 14)).setCell ⟨W.heap.size, 1, none⟩ (.int .i64 0)).setCell ⟨W.heap.size, 2, none⟩ (.string z)).setCell ⟨W.heap.size, 3, none⟩ (.slice none 0 0) = U := ⟨_, rfl⟩
        rw [hU]
        obtain ⟨f1, f2, f3, f4⟩ := X3.out.fin 14 0 z (.slice none 0 0) (Nw.leaf _ _ _ _ _ hz) hU
        refine bodyPost_ret (ret_N rfl _ rfl f1) rfl ?_
        exact ⟨_, rfl, f2, f3, by omega, f4⟩
      · obtain ⟨z, hzz⟩ : ∃ z, TY.pick TY.bNames (TY.nxt L (i + 2) 9) = z := ⟨_, rfl⟩
        have hz : z.size ≤ 1000 := hzz ▸ pick_small (by decide) (TY.nxt_lt _ _ (by decide))
        have N3 := Lib.hid (fun V (h : Ex W V lo b L (i + 2)) => pk h (by omega) #[.string ⟨#[115, 101, 108, 102]⟩, .string ⟨#[110, 111, 100, 101, 115]⟩, .string ⟨#[110, 111, 119]⟩, .string ⟨#[102, 114, 111, 109]⟩, .string ⟨#[97]⟩, .string ⟨#[98]⟩, .string ⟨#[105, 100]⟩, .string ⟨#[111, 112]⟩, .string ⟨#[107, 101, 121]⟩] TY.bNames 9 (by decide) (by decide) (fun j hj => by
            match j, hj with
            | 0, _ => rfl
            | 1, _ => rfl
            | 2, _ => rfl
            | 3, _ => rfl
            | 4, _ => rfl
            | 5, _ => rfl
            | 6, _ => rfl
            | 7, _ => rfl
            | 8, _ => rfl) hzz)
        have hG : TY.genI L false sub 1 (i + 2) = (.mk 15 0 z [], i + 3) := by rw [← hzz]; rfl
        rw [hG]
        clear hG hzz
        go_enter Try.func11, Try.ntmps11
        go_wp2_with (first
          | (rw [HW0.out]; go_at_call 12; refine N1.out.mono ?_; clear N1; rintro e w1 ⟨rfl, X1, C1⟩; replace X1 := Lib.hid X1; clear C1)
          | (go_at_call 12; refine (N2.out _ X1.out).mono ?_; clear N2; rintro e w2 ⟨rfl, X2, C2⟩; replace X2 := Lib.hid X2; clear C2)
          | (go_at_call 19; refine (N3.out _ X2.out).mono ?_; clear N3; rintro e w3 ⟨rfl, X3, C3⟩; replace X3 := Lib.hid X3; clear C3; obtain ⟨q0, q1, q2, q3, p0, p1, p2, p3⟩ := X3.out.cells))
        obtain ⟨U, hU⟩ : ∃ U, (((w3.setCell ⟨W.heap.size, 0, none⟩ (.int .i64 15)).setCell ⟨W.heap.size, 1, none⟩ (.int .i64 0)).setCell ⟨W.heap.size, 2, none⟩ (.string z)).setCell ⟨W.heap.size, 3, none⟩ (.slice none 0 0) = U := ⟨_, rfl⟩
        rw [hU]
        obtain ⟨f1, f2, f3, f4⟩ := X3.out.fin 15 0 z (.slice none 0 0) (Nw.leaf _ _ _ _ _ hz) hU
        refine bodyPost_ret (ret_N rfl _ rfl f1) rfl ?_
        exact ⟨_, rfl, f2, f3, by omega, f4⟩
      · obtain ⟨y, hy⟩ : ∃ y, TY.nxt L (i + 2) 100 = y := ⟨_, rfl⟩
        have N3 := Lib.hid (fun V (h : Ex W V lo b L (i + 2)) => nx h (by omega) 100 y 100 (by decide) (by decide) rfl hy)
        have hG : TY.genI L false sub 2 (i + 2) = (.mk 12 (y : Int) TY.eps [], i + 3) := by rw [← hy]; rfl
        rw [hG]
        clear hy hG
        go_enter Try.func11, Try.ntmps11
        go_wp2_with (first
          | (rw [HW0.out]; go_at_call 12; refine N1.out.mono ?_; clear N1; rintro e w1 ⟨rfl, X1, C1⟩; replace X1 := Lib.hid X1; clear C1)
          | (go_at_call 12; refine (N2.out _ X1.out).mono ?_; clear N2; rintro e w2 ⟨rfl, X2, C2⟩; replace X2 := Lib.hid X2; clear C2)
          | (go_at_call 12; refine (N3.out _ X2.out).mono ?_; clear N3; rintro e w3 ⟨rfl, X3, C3⟩; replace X3 := Lib.hid X3; clear C3; obtain ⟨q0, q1, q2, q3, p0, p1, p2, p3⟩ := X3.out.cells))
        obtain ⟨U, hU⟩ : ∃ U, (((w3.setCell ⟨W.heap.size, 0, none⟩ (.int .i64 12)).setCell ⟨W.heap.size, 1, none⟩ (.int .i64 (y : Int))).setCell ⟨W.heap.size, 2, none⟩ (.string ⟨#[]⟩)).setCell ⟨W.heap.size, 3, none⟩ (.slice none 0 0) = U := ⟨_, rfl⟩
        rw [hU]
        obtain ⟨f1, f2, f3, f4⟩ := X3.out.fin 12 (y : Int) ⟨#[]⟩ (.slice none 0 0) (Nw.leaf _ _ _ _ _ (by decide)) hU
        refine bodyPost_ret (ret_N rfl _ rfl f1) rfl ?_
        exact ⟨_, rfl, f2, f3, by omega, f4⟩
      · obtain ⟨y, hy⟩ : ∃ y, TY.nxt L (i + 2) 10 = y := ⟨_, rfl⟩
        have hy10 : y < 10 := hy ▸ TY.nxt_lt _ _ (by decide)
        have N3 := Lib.hid (fun V (h : Ex W V lo b L (i + 2)) => nx h (by omega) 10 y 10 (by decide) (by decide) rfl hy)
        have N4 := Lib.hid (fun V => nameY y hy10 V)
        have hG : TY.genI L false sub 3 (i + 2) = (.mk 14 0 (TY.vName y) [], i + 3) := by rw [← hy]; rfl
        rw [hG]
        have hz := name_small y
        obtain ⟨z, hzz⟩ : ∃ z, TY.vName y = z := ⟨_, rfl⟩
        rw [hzz] at N4 hz ⊢
        clear hy hG hzz
        go_enter Try.func11, Try.ntmps11
        go_wp2_with (first
          | (rw [HW0.out]; go_at_call 12; refine N1.out.mono ?_; clear N1; rintro e w1 ⟨rfl, X1, C1⟩; replace X1 := Lib.hid X1; clear C1)
          | (go_at_call 12; refine (N2.out _ X1.out).mono ?_; clear N2; rintro e w2 ⟨rfl, X2, C2⟩; replace X2 := Lib.hid X2; clear C2)
          | (go_at_call 12; refine (N3.out _ X2.out).mono ?_; clear N3; rintro e w3 ⟨rfl, X3, C3⟩; replace X3 := Lib.hid X3; clear C3; obtain ⟨q0, q1, q2, q3, p0, p1, p2, p3⟩ := X3.out.cells)
          | (go_at_call 17; refine (N4.out _).mono ?_; clear N4; rintro e w4 ⟨rfl, rfl⟩))
        obtain ⟨U, hU⟩ : ∃ U, (((w4.setCell ⟨W.heap.size, 0, none⟩ (.int .i64 14)).setCell ⟨W.heap.size, 1, none⟩ (.int .i64 0)).setCell ⟨W.heap.size, 2, none⟩ (.string z)).setCell ⟨W.heap.size, 3, none⟩ (.slice none 0 0) = U := ⟨_, rfl⟩
        rw [hU]
        obtain ⟨f1, f2, f3, f4⟩ := X3.out.fin 14 0 z (.slice none 0 0) (Nw.leaf _ _ _ _ _ hz) hU
        refine bodyPost_ret (ret_N rfl _ rfl f1) rfl ?_
        exact ⟨_, rfl, f2, f3, by omega, f4⟩
      · obtain ⟨z, hzz⟩ : ∃ z, TY.pick TY.bNames (TY.nxt L (i + 2) 9) = z := ⟨_, rfl⟩
        have hz : z.size ≤ 1000 := hzz ▸ pick_small (by decide) (TY.nxt_lt _ _ (by decide))
        have N3 := Lib.hid (fun V (h : Ex W V lo b L (i + 2)) => pk h (by omega) #[.string ⟨#[115, 101, 108, 102]⟩, .string ⟨#[110, 111, 100, 101, 115]⟩, .string ⟨#[110, 111, 119]⟩, .string ⟨#[102, 114, 111, 109]⟩, .string ⟨#[97]⟩, .string ⟨#[98]⟩, .string ⟨#[105, 100]⟩, .string ⟨#[111, 112]⟩, .string ⟨#[107, 101, 121]⟩] TY.bNames 9 (by decide) (by decide) (fun j hj => by
            match j, hj with
            | 0, _ => rfl
            | 1, _ => rfl
            | 2, _ => rfl
            | 3, _ => rfl
            | 4, _ => rfl
            | 5, _ => rfl
            | 6, _ => rfl
            | 7, _ => rfl
            | 8, _ => rfl) hzz)
        have hG : TY.genI L false sub 4 (i + 2) = (.mk 15 0 z [], i + 3) := by rw [← hzz]; rfl
        rw [hG]
        clear hG hzz
        go_enter Try.func11, Try.ntmps11
        go_wp2_with (first
          | (rw [HW0.out]; go_at_call 12; refine N1.out.mono ?_; clear N1; rintro e w1 ⟨rfl, X1, C1⟩; replace X1 := Lib.hid X1; clear C1)
          | (go_at_call 12; refine (N2.out _ X1.out).mono ?_; clear N2; rintro e w2 ⟨rfl, X2, C2⟩; replace X2 := Lib.hid X2; clear C2)
          | (go_at_call 19; refine (N3.out _ X2.out).mono ?_; clear N3; rintro e w3 ⟨rfl, X3, C3⟩; replace X3 := Lib.hid X3; clear C3; obtain ⟨q0, q1, q2, q3, p0, p1, p2, p3⟩ := X3.out.cells))
        obtain ⟨U, hU⟩ : ∃ U, (((w3.setCell ⟨W.heap.size, 0, none⟩ (.int .i64 15)).setCell ⟨W.heap.size, 1, none⟩ (.int .i64 0)).setCell ⟨W.heap.size, 2, none⟩ (.string z)).setCell ⟨W.heap.size, 3, none⟩ (.slice none 0 0) = U := ⟨_, rfl⟩
        rw [hU]
        obtain ⟨f1, f2, f3, f4⟩ := X3.out.fin 15 0 z (.slice none 0 0) (Nw.leaf _ _ _ _ _ hz) hU
        refine bodyPost_ret (ret_N rfl _ rfl f1) rfl ?_
        exact ⟨_, rfl, f2, f3, by omega, f4⟩
      · obtain ⟨y, hy⟩ : ∃ y, TY.nxt L (i + 2) 100 = y := ⟨_, rfl⟩
        have N3 := Lib.hid (fun V (h : Ex W V lo b L (i + 2)) => nx h (by omega) 100 y 100 (by decide) (by decide) rfl hy)
        have hG : TY.genI L false sub 5 (i + 2) = (.mk 12 (y : Int) TY.eps [], i + 3) := by rw [← hy]; rfl
        rw [hG]
        clear hy hG
        go_enter Try.func11, Try.ntmps11
        go_wp2_with (first
          | (rw [HW0.out]; go_at_call 12; refine N1.out.mono ?_; clear N1; rintro e w1 ⟨rfl, X1, C1⟩; replace X1 := Lib.hid X1; clear C1)
          | (go_at_call 12; refine (N2.out _ X1.out).mono ?_; clear N2; rintro e w2 ⟨rfl, X2, C2⟩; replace X2 := Lib.hid X2; clear C2)
          | (go_at_call 12; refine (N3.out _ X2.out).mono ?_; clear N3; rintro e w3 ⟨rfl, X3, C3⟩; replace X3 := Lib.hid X3; clear C3; obtain ⟨q0, q1, q2, q3, p0, p1, p2, p3⟩ := X3.out.cells))
        obtain ⟨U, hU⟩ : ∃ U, (((w3.setCell ⟨W.heap.size, 0, none⟩ (.int .i64 12)).setCell ⟨W.heap.size, 1, none⟩ (.int .i64 (y : Int))).setCell ⟨W.heap.size, 2, none⟩ (.string ⟨#[]⟩)).setCell ⟨W.heap.size, 3, none⟩ (.slice none 0 0) = U := ⟨_, rfl⟩
        rw [hU]
        obtain ⟨f1, f2, f3, f4⟩ := X3.out.fin 12 (y : Int) ⟨#[]⟩ (.slice none 0 0) (Nw.leaf _ _ _ _ _ (by decide)) hU
        refine bodyPost_ret (ret_N rfl _ rfl f1) rfl ?_
        exact ⟨_, rfl, f2, f3, by omega, f4⟩
  · have e5 : ((x : Int) == 5) = false := by simp; omega
    rcases hw with rfl | rfl
    · rw [genF_way (f := 1) hx hk (by rw [if_neg h5])]
      rw [if_neg (by decide)]
      clear hx hk
      rcases hk' with rfl | rfl | rfl | rfl | rfl | rfl
      · obtain ⟨y, hy⟩ : ∃ y, TY.nxt L (i + 2) 10 = y := ⟨_, rfl⟩
        have hy10 : y < 10 := hy ▸ TY.nxt_lt _ _ (by decide)
        have N3 := Lib.hid (fun V (h : Ex W V lo b L (i + 2)) => nx h (by omega) 10 y 10 (by decide) (by decide) rfl hy)
        have N4 := Lib.hid (fun V => nameY y hy10 V)
        have hG : TY.genI L false sub 0 (i + 2) = (.mk 14 0 (TY.vName y) [], i + 3) := by rw [← hy]; rfl
        rw [hG]
        have hz := name_small y
        obtain ⟨z, hzz⟩ : ∃ z, TY.vName y = z := ⟨_, rfl⟩
        rw [hzz] at N4 hz ⊢
        clear hy hG hzz
        go_enter Try.func11, Try.ntmps11
        go_wp2_with (first
          | (rw [HW0.out]; go_at_call 12; refine N1.out.mono ?_; clear N1; rintro e w1 ⟨rfl, X1, C1⟩; replace X1 := Lib.hid X1; clear C1)
          | (go_at_call 12; refine (N2.out _ X1.out).mono ?_; clear N2; rintro e w2 ⟨rfl, X2, C2⟩; replace X2 := Lib.hid X2; clear C2)
          | (go_at_call 12; refine (N3.out _ X2.out).mono ?_; clear N3; rintro e w3 ⟨rfl, X3, C3⟩; replace X3 := Lib.hid X3; clear C3; obtain ⟨q0, q1, q2, q3, p0, p1, p2, p3⟩ := X3.out.cells)
          | (go_at_call 17; refine (N4.out _).mono ?_; clear N4; rintro e w4 ⟨rfl, rfl⟩))
        obtain ⟨U, hU⟩ : ∃ U, (((w4.setCell ⟨W.heap.size, 0, none⟩ (.int .i64 14)).setCell ⟨W.heap.size, 1, none⟩ (.int .i64 0)).setCell ⟨W.heap.size, 2, none⟩ (.string z)).setCell ⟨W.heap.size, 3, none⟩ (.slice none 0 0) = U := ⟨_, rfl⟩
        rw [hU]
        obtain ⟨f1, f2, f3, f4⟩ := X3.out.fin 14 0 z (.slice none 0 0) (Nw.leaf _ _ _ _ _ hz) hU
        refine bodyPost_ret (ret_N rfl _ rfl f1) rfl ?_
        exact ⟨_, rfl, f2, f3, by omega, f4⟩
      · obtain ⟨z, hzz⟩ : ∃ z, TY.pick TY.bNames (TY.nxt L (i + 2) 9) = z := ⟨_, rfl⟩
        have hz : z.size ≤ 1000 := hzz ▸ pick_small (by decide) (TY.nxt_lt _ _ (by decide))
        have N3 := Lib.hid (fun V (h : Ex W V lo b L (i + 2)) => pk h (by omega) #[.string ⟨#[115, 101, 108, 102]⟩, .string ⟨#[110, 111, 100, 101, 115]⟩, .string ⟨#[110, 111, 119]⟩, .string ⟨#[102, 114, 111, 109]⟩, .string ⟨#[97]⟩, .string ⟨#[98]⟩, .string ⟨#[105, 100]⟩, .string ⟨#[111, 112]⟩, .string ⟨#[107, 101, 121]⟩] TY.bNames 9 (by decide) (by decide) (fun j hj => by
            match j, hj with
            | 0, _ => rfl
            | 1, _ => rfl
            | 2, _ => rfl
            | 3, _ => rfl
            | 4, _ => rfl
            | 5, _ => rfl
            | 6, _ => rfl
            | 7, _ => rfl
            | 8, _ => rfl) hzz)
        have hG : TY.genI L false sub 1 (i + 2) = (.mk 15 0 z [], i + 3) := by rw [← hzz]; rfl
        rw [hG]
        clear hG hzz
        go_enter Try.func11, Try.ntmps11
        go_wp2_with (first
          | (rw [HW0.out]; go_at_call 12; refine N1.out.mono ?_; clear N1; rintro e w1 ⟨rfl, X1, C1⟩; replace X1 := Lib.hid X1; clear C1)
          | (go_at_call 12; refine (N2.out _ X1.out).mono ?_; clear N2; rintro e w2 ⟨rfl, X2, C2⟩; replace X2 := Lib.hid X2; clear C2)
          | (go_at_call 19; refine (N3.out _ X2.out).mono ?_; clear N3; rintro e w3 ⟨rfl, X3, C3⟩; replace X3 := Lib.hid X3; clear C3; obtain ⟨q0, q1, q2, q3, p0, p1, p2, p3⟩ := X3.out.cells))
        obtain ⟨U, hU⟩ : ∃ U, (((w3.setCell ⟨W.heap.size, 0, none⟩ (.int .i64 15)).setCell ⟨W.heap.size, 1, none⟩ (.int .i64 0)).setCell ⟨W.heap.size, 2, none⟩ (.string z)).setCell ⟨W.heap.size, 3, none⟩ (.slice none 0 0) = U := ⟨_, rfl⟩
        rw [hU]
        obtain ⟨f1, f2, f3, f4⟩ := X3.out.fin 15 0 z (.slice none 0 0) (Nw.leaf _ _ _ _ _ hz) hU
        refine bodyPost_ret (ret_N rfl _ rfl f1) rfl ?_
        exact ⟨_, rfl, f2, f3, by omega, f4⟩
      · obtain ⟨y, hy⟩ : ∃ y, TY.nxt L (i + 2) 100 = y := ⟨_, rfl⟩
        have N3 := Lib.hid (fun V (h : Ex W V lo b L (i + 2)) => nx h (by omega) 100 y 100 (by decide) (by decide) rfl hy)
        have hG : TY.genI L false sub 2 (i + 2) = (.mk 12 (y : Int) TY.eps [], i + 3) := by rw [← hy]; rfl
        rw [hG]
        clear hy hG
        go_enter Try.func11, Try.ntmps11
        go_wp2_with (first
          | (rw [HW0.out]; go_at_call 12; refine N1.out.mono ?_; clear N1; rintro e w1 ⟨rfl, X1, C1⟩; replace X1 := Lib.hid X1; clear C1)
          | (go_at_call 12; refine (N2.out _ X1.out).mono ?_; clear N2; rintro e w2 ⟨rfl, X2, C2⟩; replace X2 := Lib.hid X2; clear C2)
          | (go_at_call 12; refine (N3.out _ X2.out).mono ?_; clear N3; rintro e w3 ⟨rfl, X3, C3⟩; replace X3 := Lib.hid X3; clear C3; obtain ⟨q0, q1, q2, q3, p0, p1, p2, p3⟩ := X3.out.cells))
        obtain ⟨U, hU⟩ : ∃ U, (((w3.setCell ⟨W.heap.size, 0, none⟩ (.int .i64 12)).setCell ⟨W.heap.size, 1, none⟩ (.int .i64 (y : Int))).setCell ⟨W.heap.size, 2, none⟩ (.string ⟨#[]⟩)).setCell ⟨W.heap.size, 3, none⟩ (.slice none 0 0) = U := ⟨_, rfl⟩
        rw [hU]
        obtain ⟨f1, f2, f3, f4⟩ := X3.out.fin 12 (y : Int) ⟨#[]⟩ (.slice none 0 0) (Nw.leaf _ _ _ _ _ (by decide)) hU
        refine bodyPost_ret (ret_N rfl _ rfl f1) rfl ?_
        exact ⟨_, rfl, f2, f3, by omega, f4⟩
      · obtain ⟨y, hy⟩ : ∃ y, TY.nxt L (i + 2) 10 = y := ⟨_, rfl⟩
        have hy10 : y < 10 := hy ▸ TY.nxt_lt _ _ (by decide)
        have N3 := Lib.hid (fun V (h : Ex W V lo b L (i + 2)) => nx h (by omega) 10 y 10 (by decide) (by decide) rfl hy)
        have N4 := Lib.hid (fun V => nameY y hy10 V)
        have hG : TY.genI L false sub 3 (i + 2) = (.mk 14 0 (TY.vName y) [], i + 3) := by rw [← hy]; rfl
        rw [hG]
        have hz := name_small y
        obtain ⟨z, hzz⟩ : ∃ z, TY.vName y = z := ⟨_, rfl⟩
        rw [hzz] at N4 hz ⊢
        clear hy hG hzz
        go_enter Try.func11, Try.ntmps11
        go_wp2_with (first
          | (rw [HW0.out]; go_at_call 12; refine N1.out.mono ?_; clear N1; rintro e w1 ⟨rfl, X1, C1⟩; replace X1 := Lib.hid X1; clear C1)
          | (go_at_call 12; refine (N2.out _ X1.out).mono ?_; clear N2; rintro e w2 ⟨rfl, X2, C2⟩; replace X2 := Lib.hid X2; clear C2)
          | (go_at_call 12; refine (N3.out _ X2.out).mono ?_; clear N3; rintro e w3 ⟨rfl, X3, C3⟩; replace X3 := Lib.hid X3; clear C3; obtain ⟨q0, q1, q2, q3, p0, p1, p2, p3⟩ := X3.out.cells)
          | (go_at_call 17; refine (N4.out _).mono ?_; clear N4; rintro e w4 ⟨rfl, rfl⟩))
        obtain ⟨U, hU⟩ : ∃ U, (((w4.setCell ⟨W.heap.size, 0, none⟩ (.int .i64 14)).setCell ⟨W.heap.size, 1, none⟩ (.int .i64 0)).setCell ⟨W.heap.size, 2, none⟩ (.string z)).setCell ⟨W.heap.size, 3, none⟩ (.slice none 0 0) = U := ⟨_, rfl⟩
        rw [hU]
        obtain ⟨f1, f2, f3, f4⟩ := X3.out.fin 14 0 z (.slice none 0 0) (Nw.leaf _ _ _ _ _ hz) hU
        refine bodyPost_ret (ret_N rfl _ rfl f1) rfl ?_
        exact ⟨_, rfl, f2, f3, by omega, f4⟩
      · obtain ⟨z, hzz⟩ : ∃ z, TY.pick TY.bNames (TY.nxt L (i + 2) 9) = z := ⟨_, rfl⟩
        have hz : z.size ≤ 1000 := hzz ▸ pick_small (by decide) (TY.nxt_lt _ _ (by decide))
        have N3 := Lib.hid (fun V (h : Ex W V lo b L (i + 2)) => pk h (by omega) #[.string ⟨#[115, 101, 108, 102]⟩, .string ⟨#[110, 111, 100, 101, 115]⟩, .string ⟨#[110, 111, 119]⟩, .string ⟨#[102, 114, 111, 109]⟩, .string ⟨#[97]⟩, .string ⟨#[98]⟩, .string ⟨#[105, 100]⟩, .string ⟨#[111, 112]⟩, .string ⟨#[107, 101, 121]⟩] TY.bNames 9 (by decide) (by decide) (fun j hj => by
            match j, hj with
            | 0, _ => rfl
            | 1, _ => rfl
            | 2, _ => rfl
            | 3, _ => rfl
            | 4, _ => rfl
            | 5, _ => rfl
            | 6, _ => rfl
            | 7, _ => rfl
            | 8, _ => rfl) hzz)
        have hG : TY.genI L false sub 4 (i + 2) = (.mk 15 0 z [], i + 3) := by rw [← hzz]; rfl
        rw [hG]
        clear hG hzz
        go_enter Try.func11, Try.ntmps11
        go_wp2_with (first
          | (rw [HW0.out]; go_at_call 12; refine N1.out.mono ?_; clear N1; rintro e w1 ⟨rfl, X1, C1⟩; replace X1 := Lib.hid X1; clear C1)
          | (go_at_call 12; refine (N2.out _ X1.out).mono ?_; clear N2; rintro e w2 ⟨rfl, X2, C2⟩; replace X2 := Lib.hid X2; clear C2)
          | (go_at_call 19; refine (N3.out _ X2.out).mono ?_; clear N3; rintro e w3 ⟨rfl, X3, C3⟩; replace X3 := Lib.hid X3; clear C3; obtain ⟨q0, q1, q2, q3, p0, p1, p2, p3⟩ := X3.out.cells))
        obtain ⟨U, hU⟩ : ∃ U, (((w3.setCell ⟨W.heap.size, 0, none⟩ (.int .i64 15)).setCell ⟨W.heap.size, 1, none⟩ (.int .i64 0)).setCell ⟨W.heap.size, 2, none⟩ (.string z)).setCell ⟨W.heap.size, 3, none⟩ (.slice none 0 0) = U := ⟨_, rfl⟩
        rw [hU]
        obtain ⟨f1, f2, f3, f4⟩ := X3.out.fin 15 0 z (.slice none 0 0) (Nw.leaf _ _ _ _ _ hz) hU
        refine bodyPost_ret (ret_N rfl _ rfl f1) rfl ?_
        exact ⟨_, rfl, f2, f3, by omega, f4⟩
      · obtain ⟨y, hy⟩ : ∃ y, TY.nxt L (i + 2) 100 = y := ⟨_, rfl⟩
        have N3 := Lib.hid (fun V (h : Ex W V lo b L (i + 2)) => nx h (by omega) 100 y 100 (by decide) (by decide) rfl hy)
        have hG : TY.genI L false sub 5 (i + 2) = (.mk 12 (y : Int) TY.eps [], i + 3) := by rw [← hy]; rfl
        rw [hG]
        clear hy hG
        go_enter Try.func11, Try.ntmps11
        go_wp2_with (first
          | (rw [HW0.out]; go_at_call 12; refine N1.out.mono ?_; clear N1; rintro e w1 ⟨rfl, X1, C1⟩; replace X1 := Lib.hid X1; clear C1)
          | (go_at_call 12; refine (N2.out _ X1.out).mono ?_; clear N2; rintro e w2 ⟨rfl, X2, C2⟩; replace X2 := Lib.hid X2; clear C2)
          | (go_at_call 12; refine (N3.out _ X2.out).mono ?_; clear N3; rintro e w3 ⟨rfl, X3, C3⟩; replace X3 := Lib.hid X3; clear C3; obtain ⟨q0, q1, q2, q3, p0, p1, p2, p3⟩ := X3.out.cells))
        obtain ⟨U, hU⟩ : ∃ U, (((w3.setCell ⟨W.heap.size, 0, none⟩ (.int .i64 12)).setCell ⟨W.heap.size, 1, none⟩ (.int .i64 (y : Int))).setCell ⟨W.heap.size, 2, none⟩ (.string ⟨#[]⟩)).setCell ⟨W.heap.size, 3, none⟩ (.slice none 0 0) = U := ⟨_, rfl⟩
        rw [hU]
        obtain ⟨f1, f2, f3, f4⟩ := X3.out.fin 12 (y : Int) ⟨#[]⟩ (.slice none 0 0) (Nw.leaf _ _ _ _ _ (by decide)) hU
        refine bodyPost_ret (ret_N rfl _ rfl f1) rfl ?_
        exact ⟨_, rfl, f2, f3, by omega, f4⟩
    · rw [genF_way (f := 2) hx hk (by rw [if_neg h5])]
      rw [if_pos rfl]
      clear hx hk
      rcases hk' with rfl | rfl | rfl | rfl | rfl | rfl
      · obtain ⟨y, hy⟩ : ∃ y, TY.nxt L (i + 2) 2 = y := ⟨_, rfl⟩
        have N3 := Lib.hid (fun V (h : Ex W V lo b L (i + 2)) => nx h (by omega) 2 y 2 (by decide) (by decide) rfl hy)
        have hG : TY.genB L false sub 0 (i + 2) = (.mk 13 (y : Int) TY.eps [], i + 3) := by rw [← hy]; rfl
        rw [hG]
        clear hy hG
        go_enter Try.func11, Try.ntmps11
        go_wp2_with (first
          | (rw [HW0.out]; go_at_call 12; refine N1.out.mono ?_; clear N1; rintro e w1 ⟨rfl, X1, C1⟩; replace X1 := Lib.hid X1; clear C1)
          | (go_at_call 12; refine (N2.out _ X1.out).mono ?_; clear N2; rintro e w2 ⟨rfl, X2, C2⟩; replace X2 := Lib.hid X2; clear C2)
          | (go_at_call 12; refine (N3.out _ X2.out).mono ?_; clear N3; rintro e w3 ⟨rfl, X3, C3⟩; replace X3 := Lib.hid X3; clear C3; obtain ⟨q0, q1, q2, q3, p0, p1, p2, p3⟩ := X3.out.cells))
        obtain ⟨U, hU⟩ : ∃ U, (((w3.setCell ⟨W.heap.size, 0, none⟩ (.int .i64 13)).setCell ⟨W.heap.size, 1, none⟩ (.int .i64 (y : Int))).setCell ⟨W.heap.size, 2, none⟩ (.string ⟨#[]⟩)).setCell ⟨W.heap.size, 3, none⟩ (.slice none 0 0) = U := ⟨_, rfl⟩
        rw [hU]
        obtain ⟨f1, f2, f3, f4⟩ := X3.out.fin 13 (y : Int) ⟨#[]⟩ (.slice none 0 0) (Nw.leaf _ _ _ _ _ (by decide)) hU
        refine bodyPost_ret (ret_N rfl _ rfl f1) rfl ?_
        exact ⟨_, rfl, f2, f3, by omega, f4⟩
      · obtain ⟨y, hy⟩ : ∃ y, TY.nxt L (i + 2) 2 = y := ⟨_, rfl⟩
        have N3 := Lib.hid (fun V (h : Ex W V lo b L (i + 2)) => nx h (by omega) 2 y 2 (by decide) (by decide) rfl hy)
        have hG : TY.genB L false sub 1 (i + 2) = (.mk 13 (y : Int) TY.eps [], i + 3) := by rw [← hy]; rfl
        rw [hG]
        clear hy hG
        go_enter Try.func11, Try.ntmps11
        go_wp2_with (first
          | (rw [HW0.out]; go_at_call 12; refine N1.out.mono ?_; clear N1; rintro e w1 ⟨rfl, X1, C1⟩; replace X1 := Lib.hid X1; clear C1)
          | (go_at_call 12; refine (N2.out _ X1.out).mono ?_; clear N2; rintro e w2 ⟨rfl, X2, C2⟩; replace X2 := Lib.hid X2; clear C2)
          | (go_at_call 12; refine (N3.out _ X2.out).mono ?_; clear N3; rintro e w3 ⟨rfl, X3, C3⟩; replace X3 := Lib.hid X3; clear C3; obtain ⟨q0, q1, q2, q3, p0, p1, p2, p3⟩ := X3.out.cells))
        obtain ⟨U, hU⟩ : ∃ U, (((w3.setCell ⟨W.heap.size, 0, none⟩ (.int .i64 13)).setCell ⟨W.heap.size, 1, none⟩ (.int .i64 (y : Int))).setCell ⟨W.heap.size, 2, none⟩ (.string ⟨#[]⟩)).setCell ⟨W.heap.size, 3, none⟩ (.slice none 0 0) = U := ⟨_, rfl⟩
        rw [hU]
        obtain ⟨f1, f2, f3, f4⟩ := X3.out.fin 13 (y : Int) ⟨#[]⟩ (.slice none 0 0) (Nw.leaf _ _ _ _ _ (by decide)) hU
        refine bodyPost_ret (ret_N rfl _ rfl f1) rfl ?_
        exact ⟨_, rfl, f2, f3, by omega, f4⟩
      · obtain ⟨y, hy⟩ : ∃ y, TY.nxt L (i + 2) 2 = y := ⟨_, rfl⟩
        have N3 := Lib.hid (fun V (h : Ex W V lo b L (i + 2)) => nx h (by omega) 2 y 2 (by decide) (by decide) rfl hy)
        have hG : TY.genB L false sub 2 (i + 2) = (.mk 13 (y : Int) TY.eps [], i + 3) := by rw [← hy]; rfl
        rw [hG]
        clear hy hG
        go_enter Try.func11, Try.ntmps11
        go_wp2_with (first
          | (rw [HW0.out]; go_at_call 12; refine N1.out.mono ?_; clear N1; rintro e w1 ⟨rfl, X1, C1⟩; replace X1 := Lib.hid X1; clear C1)
          | (go_at_call 12; refine (N2.out _ X1.out).mono ?_; clear N2; rintro e w2 ⟨rfl, X2, C2⟩; replace X2 := Lib.hid X2; clear C2)
          | (go_at_call 12; refine (N3.out _ X2.out).mono ?_; clear N3; rintro e w3 ⟨rfl, X3, C3⟩; replace X3 := Lib.hid X3; clear C3; obtain ⟨q0, q1, q2, q3, p0, p1, p2, p3⟩ := X3.out.cells))
        obtain ⟨U, hU⟩ : ∃ U, (((w3.setCell ⟨W.heap.size, 0, none⟩ (.int .i64 13)).setCell ⟨W.heap.size, 1, none⟩ (.int .i64 (y : Int))).setCell ⟨W.heap.size, 2, none⟩ (.string ⟨#[]⟩)).setCell ⟨W.heap.size, 3, none⟩ (.slice none 0 0) = U := ⟨_, rfl⟩
        rw [hU]
        obtain ⟨f1, f2, f3, f4⟩ := X3.out.fin 13 (y : Int) ⟨#[]⟩ (.slice none 0 0) (Nw.leaf _ _ _ _ _ (by decide)) hU
        refine bodyPost_ret (ret_N rfl _ rfl f1) rfl ?_
        exact ⟨_, rfl, f2, f3, by omega, f4⟩
      · obtain ⟨y, hy⟩ : ∃ y, TY.nxt L (i + 2) 2 = y := ⟨_, rfl⟩
        have N3 := Lib.hid (fun V (h : Ex W V lo b L (i + 2)) => nx h (by omega) 2 y 2 (by decide) (by decide) rfl hy)
        have hG : TY.genB L false sub 3 (i + 2) = (.mk 13 (y : Int) TY.eps [], i + 3) := by rw [← hy]; rfl
        rw [hG]
        clear hy hG
        go_enter Try.func11, Try.ntmps11
        go_wp2_with (first
          | (rw [HW0.out]; go_at_call 12; refine N1.out.mono ?_; clear N1; rintro e w1 ⟨rfl, X1, C1⟩; replace X1 := Lib.hid X1; clear C1)
          | (go_at_call 12; refine (N2.out _ X1.out).mono ?_; clear N2; rintro e w2 ⟨rfl, X2, C2⟩; replace X2 := Lib.hid X2; clear C2)
          | (go_at_call 12; refine (N3.out _ X2.out).mono ?_; clear N3; rintro e w3 ⟨rfl, X3, C3⟩; replace X3 := Lib.hid X3; clear C3; obtain ⟨q0, q1, q2, q3, p0, p1, p2, p3⟩ := X3.out.cells))
        obtain ⟨U, hU⟩ : ∃ U, (((w3.setCell ⟨W.heap.size, 0, none⟩ (.int .i64 13)).setCell ⟨W.heap.size, 1, none⟩ (.int .i64 (y : Int))).setCell ⟨W.heap.size, 2, none⟩ (.string ⟨#[]⟩)).setCell ⟨W.heap.size, 3, none⟩ (.slice none 0 0) = U := ⟨_, rfl⟩
        rw [hU]
        obtain ⟨f1, f2, f3, f4⟩ := X3.out.fin 13 (y : Int) ⟨#[]⟩ (.slice none 0 0) (Nw.leaf _ _ _ _ _ (by decide)) hU
        refine bodyPost_ret (ret_N rfl _ rfl f1) rfl ?_
        exact ⟨_, rfl, f2, f3, by omega, f4⟩
      · obtain ⟨y, hy⟩ : ∃ y, TY.nxt L (i + 2) 2 = y := ⟨_, rfl⟩
        have N3 := Lib.hid (fun V (h : Ex W V lo b L (i + 2)) => nx h (by omega) 2 y 2 (by decide) (by decide) rfl hy)
        have hG : TY.genB L false sub 4 (i + 2) = (.mk 13 (y : Int) TY.eps [], i + 3) := by rw [← hy]; rfl
        rw [hG]
        clear hy hG
        go_enter Try.func11, Try.ntmps11
        go_wp2_with (first
          | (rw [HW0.out]; go_at_call 12; refine N1.out.mono ?_; clear N1; rintro e w1 ⟨rfl, X1, C1⟩; replace X1 := Lib.hid X1; clear C1)
          | (go_at_call 12; refine (N2.out _ X1.out).mono ?_; clear N2; rintro e w2 ⟨rfl, X2, C2⟩; replace X2 := Lib.hid X2; clear C2)
          | (go_at_call 12; refine (N3.out _ X2.out).mono ?_; clear N3; rintro e w3 ⟨rfl, X3, C3⟩; replace X3 := Lib.hid X3; clear C3; obtain ⟨q0, q1, q2, q3, p0, p1, p2, p3⟩ := X3.out.cells))
        obtain ⟨U, hU⟩ : ∃ U, (((w3.setCell ⟨W.heap.size, 0, none⟩ (.int .i64 13)).setCell ⟨W.heap.size, 1, none⟩ (.int .i64 (y : Int))).setCell ⟨W.heap.size, 2, none⟩ (.string ⟨#[]⟩)).setCell ⟨W.heap.size, 3, none⟩ (.slice none 0 0) = U := ⟨_, rfl⟩
        rw [hU]
        obtain ⟨f1, f2, f3, f4⟩ := X3.out.fin 13 (y : Int) ⟨#[]⟩ (.slice none 0 0) (Nw.leaf _ _ _ _ _ (by decide)) hU
        refine bodyPost_ret (ret_N rfl _ rfl f1) rfl ?_
        exact ⟨_, rfl, f2, f3, by omega, f4⟩
      · obtain ⟨y, hy⟩ : ∃ y, TY.nxt L (i + 2) 2 = y := ⟨_, rfl⟩
        have N3 := Lib.hid (fun V (h : Ex W V lo b L (i + 2)) => nx h (by omega) 2 y 2 (by decide) (by decide) rfl hy)
        have hG : TY.genB L false sub 5 (i + 2) = (.mk 13 (y : Int) TY.eps [], i + 3) := by rw [← hy]; rfl
        rw [hG]
        clear hy hG
        go_enter Try.func11, Try.ntmps11
        go_wp2_with (first
          | (rw [HW0.out]; go_at_call 12; refine N1.out.mono ?_; clear N1; rintro e w1 ⟨rfl, X1, C1⟩; replace X1 := Lib.hid X1; clear C1)
          | (go_at_call 12; refine (N2.out _ X1.out).mono ?_; clear N2; rintro e w2 ⟨rfl, X2, C2⟩; replace X2 := Lib.hid X2; clear C2)
          | (go_at_call 12; refine (N3.out _ X2.out).mono ?_; clear N3; rintro e w3 ⟨rfl, X3, C3⟩; replace X3 := Lib.hid X3; clear C3; obtain ⟨q0, q1, q2, q3, p0, p1, p2, p3⟩ := X3.out.cells))
        obtain ⟨U, hU⟩ : ∃ U, (((w3.setCell ⟨W.heap.size, 0, none⟩ (.int .i64 13)).setCell ⟨W.heap.size, 1, none⟩ (.int .i64 (y : Int))).setCell ⟨W.heap.size, 2, none⟩ (.string ⟨#[]⟩)).setCell ⟨W.heap.size, 3, none⟩ (.slice none 0 0) = U := ⟨_, rfl⟩
        rw [hU]
        obtain ⟨f1, f2, f3, f4⟩ := X3.out.fin 13 (y : Int) ⟨#[]⟩ (.slice none 0 0) (Nw.leaf _ _ _ _ _ (by decide)) hU
        refine bodyPost_ret (ret_N rfl _ rfl f1) rfl ?_
        exact ⟨_, rfl, f2, f3, by omega, f4⟩
end Go.Proofs.Ytligbandpmgmaaa
