/-
  The reference's Replace. Condition: the values are trees; the number is in range.
-/
import Derived.Test.YtofeidacffabdaaTyRn
import Derived.Test.YtofeidacffabdaaTyRt
import Derived.Deep.RegionHeld3
namespace Go.Proofs.Ytofeidacffabdaa
open Go Go.RowKit Go.Proofs Go.Shelf
attribute [local go_sem] Oper.semAt_some

/-- How many nodes a tree has. -/
def nsz : TY.Nd → Nat
  | .mk _ _ _ l => 1 + (l.map nsz).sum
theorem nsz_eq (k n : Int) (s : ByteArray) (l : List TY.Nd) : nsz (.mk k n s l) = 1 + (l.map nsz).sum := by rw [nsz]
theorem sum_take (l : List TY.Nd) (j : Nat) {t : TY.Nd} (h : l[j]? = some t) : ((l.take j).map nsz).sum + nsz t ≤ (l.map nsz).sum := by
  have e : (l.map nsz).sum = ((l.take (j + 1)).map nsz).sum + ((l.drop (j + 1)).map nsz).sum := by
    rw [← List.sum_append, ← List.map_append, List.take_append_drop]
  rw [e, List.take_add_one, h, List.map_append, List.sum_append]
  simp
theorem kidsR_snoc (a : Int) (f : Int → TY.Nd × Int) : ∀ (fs : List (Int → TY.Nd × Int)) (c : Int), TY.kidsR (fs ++ [f]) a c = ((TY.kidsR fs a c).1 ++ [(f (a - (TY.kidsR fs a c).2)).1], (TY.kidsR fs a c).2 + (f (a - (TY.kidsR fs a c).2)).2)
  | [], c => rfl
  | g :: t, c => by
    rw [List.cons_append, TY.kidsR, TY.kidsR]
    dsimp only
    rw [kidsR_snoc a f t]
    rfl
theorem kidsR_bound (a : Int) : ∀ (l : List TY.Nd) (F : TY.Nd → Int → TY.Nd × Int) (c : Int), (∀ x ∈ l, ∀ b, 0 ≤ (F x b).2 ∧ (F x b).2 ≤ (nsz x : Int)) → c ≤ (TY.kidsR (l.map F) a c).2 ∧ (TY.kidsR (l.map F) a c).2 ≤ c + ((l.map nsz).sum : Nat)
  | [], F, c, _ => by simp [TY.kidsR]
  | x :: t, F, c, h => by
    rw [List.map_cons, TY.kidsR]
    dsimp only
    have h1 := h x (by simp) (a - c)
    have h2 := kidsR_bound a t F (c + (F x (a - c)).2) fun y hy => h y (List.mem_cons_of_mem _ hy)
    rw [List.map_cons, List.sum_cons]
    omega
theorem repl_bound (typ : Nat) (by_ : TY.Nd) : ∀ t a, 0 ≤ (TY.repl typ by_ t a).2 ∧ (TY.repl typ by_ t a).2 ≤ (nsz t : Int) := by
  intro t
  induction t using TY.Nd.ind with
  | h k n s l ih =>
    intro a
    rw [TY.repl_eq, nsz_eq]
    obtain ⟨c, hc, hc2⟩ : ∃ c : Int, (if TY.refTy (.mk k n s l) = typ then (1 : Int) else 0) = c ∧ (c = 0 ∨ c = 1) := ⟨_, rfl, by split <;> simp⟩
    rw [hc]
    have hkb := kidsR_bound a l (TY.repl typ by_) c ih
    by_cases h : c = 1 ∧ a = 0
    · rw [if_pos h]
      show (0 : Int) ≤ 1 ∧ (1 : Int) ≤ _
      omega
    · rw [if_neg h]
      show 0 ≤ (TY.kidsR (l.map (TY.repl typ by_)) a c).2 ∧ (TY.kidsR (l.map (TY.repl typ by_)) a c).2 ≤ _
      omega
/-- What Replace does at the tree t. -/
def RpAt (typ : Nat) (by_ : TY.Nd) (t : TY.Nd) : Prop := ∀ (W : World) (hi : Nat) (v vb : Value) (a : Int), NdV W hi t v → NdV W hi by_ vb → hi ≤ W.heap.size → -1000000000 + (nsz t : Int) ≤ a → a ≤ 1000000000 →
  Calls Try.prog 20 #[v, .int .i64 (typ : Int), .int .i64 a, vb] W fun e w' => ∃ v', e = .returned (.tuple #[v', .int .i64 (TY.repl typ by_ t a).2]) ∧ Ny hi W.heap.size none w' (TY.repl typ by_ t a).1 v' ∧ Below W.heap.size W w'
theorem ret_N2 {fn : Func} {p q : Tmp} (hf : fn.results = #[.cell p 25, .tmp q]) {V : World} {b : Nat} {x0 x1 x2 x3 y : Value} (tmps : Array Value) (hp : tmps.getD p undef = .pointer (some ⟨b, 0, none⟩)) (hq : tmps.getD q undef = y) (h : V.heap[b]? = some (.cells #[x0, x1, x2, x3] 25 (0, 0))) : (results fn tmps).run Try.prog V = .ok (.tuple #[.agg #[x0, x1, x2, x3], y]) V := by
  have c0 : V.cell? ⟨b, 0, none⟩ = some x0 := cell_of_row V b 0 _ _ (0, 0) h
  have c1 : V.cell? ⟨b, 1, none⟩ = some x1 := cell_of_row V b 1 _ _ (0, 0) h
  have c2 : V.cell? ⟨b, 2, none⟩ = some x2 := cell_of_row V b 2 _ _ (0, 0) h
  have c3 : V.cell? ⟨b, 3, none⟩ = some x3 := cell_of_row V b 3 _ _ (0, 0) h
  have ia := Try.isAgg25
  have so := Try.sizeOf25
  simp only [results, hf]
  have hp' : tmps[p]?.getD undef = .pointer (some ⟨b, 0, none⟩) := by simpa using hp
  have hq' : tmps[q]?.getD undef = y := by simpa using hq
  simp [go_sem, hp', hq', c0, c1, c2, c3, ia, so]
theorem four_of {V : World} {g : Nat} {x0 x1 x2 x3 : Value} {t : TypeId} (h : V.heap[g]? = some (.cells #[x0, x1, x2, x3] t (0, 0))) : V.cell? ⟨g, 0, none⟩ = some x0 ∧ V.cell? ⟨g, 1, none⟩ = some x1 ∧ V.cell? ⟨g, 2, none⟩ = some x2 ∧ V.cell? ⟨g, 3, none⟩ = some x3 ∧ V.frozen? ⟨g, 0, none⟩ = false ∧ V.frozen? ⟨g, 1, none⟩ = false ∧ V.frozen? ⟨g, 2, none⟩ = false ∧ V.frozen? ⟨g, 3, none⟩ = false :=
  ⟨cell_of_row V g 0 _ _ (0, 0) h, cell_of_row V g 1 _ _ (0, 0) h, cell_of_row V g 2 _ _ (0, 0) h, cell_of_row V g 3 _ _ (0, 0) h, by simp [World.frozen?, h], by simp [World.frozen?, h], by simp [World.frozen?, h], by simp [World.frozen?, h]⟩
/-- The result's box, laid behind the call or ahead of it. -/
theorem box_new {wr w5 : World} {lo : Nat} {t : TY.Nd} {k n : Int} {s : ByteArray} {K : Value} (hb : Below wr.heap.size wr w5) (h : Ny lo wr.heap.size none w5 t (ndv k n s K)) {U : World} (hU : w5.alloc (.cells #[.int .i64 k, .int .i64 n, .string s, K] 25) = U) :
    Below wr.heap.size wr U ∧ Ny lo wr.heap.size none U t (ndv k n s K) ∧ U.heap[w5.heap.size]? = some (.cells #[.int .i64 k, .int .i64 n, .string s, K] 25 (0, 0)) ∧ U.heap.size = w5.heap.size + 1 := by
  subst hU
  exact ⟨hb.alloc hb.size _, h.keep (Nat.le_refl _) (fun c _ hc => Below.heap_alloc w5 _ c hc) (by rw [World.size_alloc]; omega), World.alloc_heap_new w5 _, World.size_alloc _ _⟩
theorem box_old {wr w5 : World} {lo : Nat} (hlo : lo ≤ wr.heap.size) {t : TY.Nd} {k n : Int} {s : ByteArray} {K : Value} (hb : Below (wr.heap.size + 1) (wr.alloc (.cells #[.int .i64 0, .int .i64 0, .string ⟨#[]⟩, .slice none 0 0] 25)) w5) (h : Ny lo (wr.heap.size + 1) none w5 t (ndv k n s K)) {U : World} (hU : (((w5.setCell ⟨wr.heap.size, 0, none⟩ (.int .i64 k)).setCell ⟨wr.heap.size, 1, none⟩ (.int .i64 n)).setCell ⟨wr.heap.size, 2, none⟩ (.string s)).setCell ⟨wr.heap.size, 3, none⟩ K = U) :
    Below wr.heap.size wr U ∧ Ny lo wr.heap.size none U t (ndv k n s K) ∧ U.heap[wr.heap.size]? = some (.cells #[.int .i64 k, .int .i64 n, .string s, K] 25 (0, 0)) ∧ U.heap.size = w5.heap.size := by
  have hz : w5.heap[wr.heap.size]? = some (.cells #[.int .i64 0, .int .i64 0, .string ⟨#[]⟩, .slice none 0 0] 25 (0, 0)) := (hb.block _ (by omega)).trans (World.alloc_heap_new wr _)
  obtain ⟨f1, f2, f3⟩ := fin1 (lo := lo) hz (show wr.heap.size < wr.heap.size + 1 by omega) hlo k n s K h hU
  have hsz := hb.size
  rw [World.size_alloc] at hsz
  have hb' : Below wr.heap.size wr w5 := ((Below.refl wr.heap.size wr).alloc (Nat.le_refl _) _).trans (hb.mono (by omega))
  refine ⟨hb'.trans (f3.below (fun g _ e => by omega) (by omega)), f2.lower (by omega), f1, ?_⟩
  rw [← hU]
  simp [World.setCell]
set_option maxRecDepth 100000 in
set_option maxHeartbeats 8000000 in
theorem replace_any (typ : Nat) (htyp : typ ≤ 1000) (by_ : TY.Nd) : ∀ t, RpAt typ by_ t := by
  intro t
  induction t using TY.Nd.ind with
  | h k n s l ih =>
  intro W hi v vb a hv hvb hh ha1 ha2
  have hvo := hv.open_
  obtain ⟨A0, c0, vs, hvA, hvl, hlc, hcm, hlm, hss, hkd, hkids⟩ := hvo
  subst hvA
  obtain ⟨kb, nb, sb, Ab, mb, cb, rfl⟩ : ∃ (k n : Int) (s : ByteArray) (A : Option Addr) (m c : Nat), vb = ndv k n s (.slice A m c) := by
    obtain ⟨k, n, s, l⟩ := by_
    obtain ⟨A, c, _, e, _⟩ := hvb.open_
    exact ⟨k, n, s, A, _, c, e⟩
  have hrb := repl_bound typ by_ (.mk k n s l) a
  rw [nsz_eq] at ha1
  obtain ⟨m, hm⟩ : ∃ m, l.length = m := ⟨_, rfl⟩
  rw [hm] at hlc hlm hvl hv ⊢
  obtain ⟨W3, hW3⟩ : ∃ U, ((W.alloc (.cells #[.int .i64 k, .int .i64 n, .string s, .slice A0 m c0] 25)).alloc (.cells #[.int .i64 kb, .int .i64 nb, .string sb, .slice Ab mb cb] 25)).alloc (.cells #[.int .i64 0, .int .i64 0, .string ⟨#[]⟩, .slice none 0 0] 25) = U := ⟨_, rfl⟩
  have hl : lay W [.cells #[.int .i64 k, .int .i64 n, .string s, .slice A0 m c0] 25, .cells #[.int .i64 kb, .int .i64 nb, .string sb, .slice Ab mb cb] 25, .cells #[.int .i64 0, .int .i64 0, .string ⟨#[]⟩, .slice none 0 0] 25] = W3 := hW3
  have z3 : W3.heap.size = W.heap.size + 3 := by rw [← hl, lay_size]; rfl
  have b3 : Below W.heap.size W W3 := hl ▸ lay_below _ _
  have e1 : W3.heap[W.heap.size]? = some (.cells #[.int .i64 k, .int .i64 n, .string s, .slice A0 m c0] 25 (0, 0)) := hl ▸ lay_at _ W 0 rfl
  have e2 : W3.heap[W.heap.size + 1]? = some (.cells #[.int .i64 kb, .int .i64 nb, .string sb, .slice Ab mb cb] 25 (0, 0)) := hl ▸ lay_at _ W 1 rfl
  have e3 : W3.heap[W.heap.size + 1 + 1]? = some (.cells #[.int .i64 0, .int .i64 0, .string ⟨#[]⟩, .slice none 0 0] 25 (0, 0)) := hl ▸ lay_at _ W 2 rfl
  obtain ⟨y, hy⟩ : ∃ y, TY.refTy (.mk k n s l) = y := ⟨_, rfl⟩
  have TC := ref_any (.mk k n s l) W3 hi _ (hv.under (b3.mono hh) (Nat.le_refl _)) (Nat.le_trans hh b3.size)
  rw [hy] at TC
  rw [TY.repl_eq, hy] at hrb
  rw [TY.repl_eq, hy]
  have HTC := Lib.hid TC
  have HB3 := Lib.hid b3
  have HE1 := Lib.hid e1
  have HE2 := Lib.hid e2
  have HE3 := Lib.hid e3
  have HM := Lib.hid hm
  have HVL := Lib.hid hvl
  have HKD := Lib.hid hkd
  have HKI := Lib.hid hkids
  have HIH := Lib.hid ih
  have HVB := Lib.hid hvb
  have HW3 := Lib.hid hW3
  have HSUM := Lib.hid (fun j t (h : l[j]? = some t) => sum_take l j h)
  obtain ⟨i0, hi0, hz0, hz1, hz2⟩ := info_parts info_node
  have HZ := Lib.hid (And.intro hi0 (And.intro hz0 (And.intro hz1 hz2)))
  obtain ⟨S, hS⟩ : ∃ S, (l.map nsz).sum = S := ⟨_, rfl⟩
  rw [hS] at ha1
  have HSS := Lib.hid hS
  have hrb1 := hrb.1
  have hrb2 := hrb.2
  clear hv hm hvl hkd hkids ih hW3 hl b3 e1 e2 e3 TC hvb hi0 hz0 hz1 hz2 hS hy hrb
  by_cases hyt : y = typ
  · subst hyt
    have ey : ((y : Int) == (y : Int)) = true := by simp
    rw [if_pos rfl] at hrb1 hrb2 ⊢
    by_cases ha0 : a = 0
    · subst ha0
      rw [if_pos ⟨rfl, rfl⟩]
      clear hrb1 hrb2
      go_enter Try.func20, Try.ntmps20
      go_wp2_with (first
        | (rw [HW3.out]; go_at_call 13; refine HTC.out.mono ?_; clear HTC; rintro e w1 ⟨rfl, hb1⟩; have hs1 := hb1.size; obtain ⟨u0, u1, u2, u3, _, _, _, _⟩ := four_of ((hb1.block (W.heap.size + 1) (by omega)).trans HE2.out); have rb := (hb1.block (W.heap.size + 1 + 1) (by omega)).trans HE3.out; obtain ⟨r0, r1, r2, r3, p0, p1, p2, p3⟩ := four_of rb; have HRB := Lib.hid rb; have HB1 := Lib.hid hb1; clear hb1 rb))
      obtain ⟨U, hU⟩ : ∃ U, (((w1.setCell ⟨W.heap.size + 1 + 1, 0, none⟩ (.int .i64 kb)).setCell ⟨W.heap.size + 1 + 1, 1, none⟩ (.int .i64 nb)).setCell ⟨W.heap.size + 1 + 1, 2, none⟩ (.string sb)).setCell ⟨W.heap.size + 1 + 1, 3, none⟩ (.slice Ab mb cb) = U := ⟨_, rfl⟩
      rw [hU]
      have hBW : Below W.heap.size W w1 := HB3.out.trans (HB1.out.mono (by omega))
      have hold : Ny hi (W.heap.size + 3) none w1 by_ (ndv kb nb sb (.slice Ab mb cb)) := Ny.old (HVB.out.under (hBW.mono hh) (Nat.le_refl _)) (Nat.le_trans hh hBW.size) (fun c e => by cases e)
      obtain ⟨f1, f2, f3⟩ := fin1 HRB.out (show W.heap.size + 1 + 1 < W.heap.size + 3 by omega) (by omega) kb nb sb (.slice Ab mb cb) hold hU
      refine bodyPost_ret (ret_N2 rfl _ rfl rfl f1) rfl ?_
      exact ⟨_, rfl, f2.lower (by omega), hBW.trans (f3.below (fun g _ e => by omega) hBW.size)⟩
    · rw [if_neg (fun e => ha0 e.2)] at hrb1 hrb2 ⊢
      have ea : (a == 0) = false := by simpa using ha0
      obtain ⟨F, hF⟩ : ∃ F : TY.Nd → Int → TY.Nd × Int, TY.repl y by_ = F := ⟨_, rfl⟩
      have hFb : ∀ t b, 0 ≤ (F t b).2 ∧ (F t b).2 ≤ (nsz t : Int) := fun t b => hF ▸ repl_bound y by_ t b
      rw [hF] at hrb1 hrb2 ⊢
      have HFB := Lib.hid hFb
      have HFE := Lib.hid hF
      clear hFb hF
      go_enter Try.func20, Try.ntmps20
      go_wp2_with (first
        | (rw [HW3.out]; go_at_call 13; refine HTC.out.mono ?_; clear HTC; rintro e w1 ⟨rfl, hb1⟩; have hs1 := hb1.size; obtain ⟨t0, t1, t2, t3, _, _, _, _⟩ := four_of ((hb1.block (W.heap.size) (by omega)).trans HE1.out); have HB1 := Lib.hid hb1; clear hb1))
      obtain ⟨g, hg⟩ : ∃ g, w1.heap.size = g := ⟨_, rfl⟩
      rw [hg] at hs1 ⊢
      obtain ⟨W5, hW5⟩ : ∃ U, w1.alloc (.cells #[.int .i64 k, .int .i64 n, .string s, .slice none 0 0] 25) = U := ⟨_, rfl⟩
      rw [hW5]
      have z5 : W5.heap.size = g + 1 := by rw [← hW5, World.size_alloc, hg]
      have b5 : Below g w1 W5 := by rw [← hW5, ← hg]; exact (Below.refl _ _).alloc (Nat.le_refl _) _
      have hb35 : Below W3.heap.size W3 W5 := HB1.out.trans (b5.mono (by omega))
      have HE5 := Lib.hid (show W5.heap[g]? = some (.cells #[.int .i64 k, .int .i64 n, .string s, .slice none 0 0] 25 (0, 0)) by rw [← hW5, ← hg]; exact World.alloc_heap_new w1 _)
      have HN5 := Lib.hid ((hb35.block W.heap.size (by omega)).trans HE1.out)
      have HY5 := Lib.hid ((hb35.block (W.heap.size + 1) (by omega)).trans HE2.out)
      have HR5 := Lib.hid ((hb35.block (W.heap.size + 1 + 1) (by omega)).trans HE3.out)
      have HBW5 := Lib.hid (HB3.out.trans (hb35.mono (by omega)))
      clear hW5 b5 hb35 t0 t1 t2 t3 HB1 HE1 HE2 HE3 HW3 hg
      go_loopw [11, 13] (fun z i V => ∃ (j c : Nat) (A : Option Addr) (cs : List Value) (cnt : Int) (ts : List TY.Nd), j ≤ m ∧ i = .int .i64 (j : Int) ∧ z = .int .i64 cnt ∧ Hid (TY.kidsR ((l.take j).map F) a 1 = (ts, cnt)) ∧ Hid (V.heap[g]? = some (.cells #[.int .i64 k, .int .i64 n, .string s, .slice A j c] 25 (0, 0))) ∧ Hid (TS hi (g + 1) V A j c ts cs) ∧ Hid (Below g W5 V)) (fun _ i _ => m - (intOf i).toNat)
      case atStart => exact ⟨0, 0, none, [], 1, [], by omega, rfl, rfl, rfl, HE5.out, TS.nil _ _ _, Below.refl _ _⟩
      case round =>
        obtain ⟨j, c, A, cs, cnt, ts, hj, rfl, rfl, hK, hB, hR, hBl⟩ := hrel
        have hsz := hBl.out.size
        have HBW : Hid (Below W.heap.size W wr) := HBW5.out.trans (hBl.out.mono (by omega))
        have nb := (hBl.out.block W.heap.size (by omega)).trans HN5.out
        have yb := (hBl.out.block (W.heap.size + 1) (by omega)).trans HY5.out
        obtain ⟨_, _, _, d3w, _, _, _, _⟩ := four_of nb
        by_cases hjm : j < m
        · obtain ⟨t, ht⟩ : ∃ t, l[j]? = some t := ⟨l[j]'(by rw [HM.out]; exact hjm), List.getElem?_eq_getElem (by rw [HM.out]; exact hjm)⟩
          obtain ⟨vj, hvj⟩ : ∃ x, vs[j]? = some x := ⟨vs[j]'(by rw [HVL.out]; exact hjm), List.getElem?_eq_getElem (by rw [HVL.out]; exact hjm)⟩
          have hnv := HKI.out j t vj ht hvj
          obtain ⟨b, off, kj, nj, sj, Aj, lj, cj, rfl, hbh, rfl, c0', c1, c2', c3⟩ := HKD.out.tree hvj hnv
          have hbW : b < W.heap.size := by omega
          have g0 := (HBW.out.cell (p := ⟨b, off + j * 4, none⟩) hbW).trans c0'
          have g1 := (HBW.out.cell (p := ⟨b, off + j * 4 + 1, none⟩) hbW).trans c1
          have g2 := (HBW.out.cell (p := ⟨b, off + j * 4 + 2, none⟩) hbW).trans c2'
          have g3 := (HBW.out.cell (p := ⟨b, off + j * 4 + 3, none⟩) hbW).trans c3
          obtain ⟨y0, y1, y2, y3, _, _, _, _⟩ := four_of yb
          have hkb := kidsR_bound a (l.take j) F 1 (fun x _ b => HFB.out x b)
          rw [hK.out] at hkb
          have hsm := HSUM.out j t ht
          rw [HSS.out] at hsm
          have hFt := HFB.out t (a - cnt)
          have hk1 : 1 ≤ cnt := hkb.1
          have hk2 : cnt ≤ 1 + (((l.take j).map nsz).sum : Nat) := hkb.2
          have hwr : IntKind.i64.wrap (a - cnt) = a - cnt := IntWalk.i64_in _ (by omega)
          have RC := Lib.hid (fun (V : World) (hV : Below W.heap.size W V) => HFE.out ▸ HIH.out t (List.mem_of_getElem? ht) V hi _ _ (a - cnt) (hnv.under (hV.mono hh) (Nat.le_refl _)) (HVB.out.under (hV.mono hh) (Nat.le_refl _)) (Nat.le_trans hh hV.size) (by omega) (by omega))
          have HSN := Lib.hid (show TY.kidsR ((l.take (j + 1)).map F) a 1 = (ts ++ [(F t (a - cnt)).1], cnt + (F t (a - cnt)).2) by
            rw [List.take_add_one, ht, List.map_append]
            show TY.kidsR (_ ++ [F t]) a 1 = _
            rw [kidsR_snoc, hK.out])
          obtain ⟨⟨T5, d5⟩, hT5⟩ : ∃ T, F t (a - cnt) = T := ⟨_, rfl⟩
          rw [hT5] at RC HSN hFt
          have hwc : IntKind.i64.wrap (cnt + d5) = cnt + d5 := IntWalk.i64_in _ (by have h1 := hFt.1; have h2 := hFt.2; simp only at h1 h2; omega)
          have r3 : wr.cell? ⟨g, 3, none⟩ = some (.slice A j c) := (four_of hB.out).2.2.2.1
          have hgl := heap_lt hB.out
          have hjb : j ≤ 1000000 := by omega
          have B5 : Below wr.heap.size wr wr := Below.refl _ _
          have lb : b < wr.heap.size := by omega
          have ln : W.heap.size < wr.heap.size := by omega
          have ly : W.heap.size + 1 < wr.heap.size := by omega
          clear hnv c0' c1 c2' c3 ht hvj hT5 hkb hk1 hk2 hsm hFt nb yb hK
          go_wp2_with fail
          have HKP := Lib.hid (fun (V : World) (B5 : Below wr.heap.size wr V) => (show V.cell? ⟨W.heap.size, 3, none⟩ = some (.slice (some ⟨b, off, none⟩) m c0) ∧ V.cell? ⟨b, off + j * 4, none⟩ = some (.int .i64 kj) ∧ V.cell? ⟨b, off + j * 4 + 1, none⟩ = some (.int .i64 nj) ∧ V.cell? ⟨b, off + j * 4 + 2, none⟩ = some (.string sj) ∧ V.cell? ⟨b, off + j * 4 + 3, none⟩ = some (.slice Aj lj cj) ∧ V.cell? ⟨W.heap.size + 1, 0, none⟩ = some (.int .i64 kb) ∧ V.cell? ⟨W.heap.size + 1, 1, none⟩ = some (.int .i64 nb) ∧ V.cell? ⟨W.heap.size + 1, 2, none⟩ = some (.string sb) ∧ V.cell? ⟨W.heap.size + 1, 3, none⟩ = some (.slice Ab mb cb) from ⟨(B5.cell (p := ⟨W.heap.size, 3, none⟩) ln).trans d3w, (B5.cell (p := ⟨b, off + j * 4, none⟩) lb).trans g0, (B5.cell (p := ⟨b, off + j * 4 + 1, none⟩) lb).trans g1, (B5.cell (p := ⟨b, off + j * 4 + 2, none⟩) lb).trans g2, (B5.cell (p := ⟨b, off + j * 4 + 3, none⟩) lb).trans g3, (B5.cell (p := ⟨W.heap.size + 1, 0, none⟩) ly).trans y0, (B5.cell (p := ⟨W.heap.size + 1, 1, none⟩) ly).trans y1, (B5.cell (p := ⟨W.heap.size + 1, 2, none⟩) ly).trans y2, (B5.cell (p := ⟨W.heap.size + 1, 3, none⟩) ly).trans y3⟩))
          go_region_held3 (fun V => V.cell? ⟨W.heap.size, 3, none⟩ = some (.slice (some ⟨b, off, none⟩) m c0) ∧ V.cell? ⟨b, off + j * 4, none⟩ = some (.int .i64 kj) ∧ V.cell? ⟨b, off + j * 4 + 1, none⟩ = some (.int .i64 nj) ∧ V.cell? ⟨b, off + j * 4 + 2, none⟩ = some (.string sj) ∧ V.cell? ⟨b, off + j * 4 + 3, none⟩ = some (.slice Aj lj cj) ∧ V.cell? ⟨W.heap.size + 1, 0, none⟩ = some (.int .i64 kb) ∧ V.cell? ⟨W.heap.size + 1, 1, none⟩ = some (.int .i64 nb) ∧ V.cell? ⟨W.heap.size + 1, 2, none⟩ = some (.string sb) ∧ V.cell? ⟨W.heap.size + 1, 3, none⟩ = some (.slice Ab mb cb))
            (first | exact HKP.out _ B5 | exact HKP.out _ B5.drew | exact HKP.out _ (B5.alloc B5.size _) | exact HKP.out _ (B5.alloc B5.size _).drew | exact HKP.out _ ((((B5.setCell (p := ⟨wr.heap.size, 0, none⟩) (Nat.le_refl _) _).setCell (p := ⟨wr.heap.size, 1, none⟩) (Nat.le_refl _) _).setCell (p := ⟨wr.heap.size, 2, none⟩) (Nat.le_refl _) _).setCell (p := ⟨wr.heap.size, 3, none⟩) (Nat.le_refl _) _))
            (first
              | (go_at_call 20; ((with_reducible refine (RC.out _ ?_).mono ?_); focus (first | exact HBW.out | exact HBW.out.drew | exact (HBW.out.alloc HBW.out.size _) | exact (HBW.out.alloc HBW.out.size _).drew)); rintro e5 w5 ⟨v5, rfl, V5, hb⟩; obtain ⟨k5, n5, s5, A5, m5, c5, rfl⟩ := V5.shape; (first | (have B5 : Below wr.heap.size wr w5 := ((Below.refl wr.heap.size wr).drew.trans hb); have V6 : Ny hi wr.heap.size none w5 T5 (ndv k5 n5 s5 (.slice A5 m5 c5)) := V5) | (have hbz : Below (wr.heap.size + 1) (wr.alloc (.cells #[.int .i64 0, .int .i64 0, .string ⟨#[]⟩, .slice none 0 0] 25)) w5 := (by rw [← World.size_alloc wr (.cells #[.int .i64 0, .int .i64 0, .string ⟨#[]⟩, .slice none 0 0] 25)]; first | exact hb | exact (Below.refl _ _).drew.trans hb); have V7 : Ny hi (wr.heap.size + 1) none w5 T5 (ndv k5 n5 s5 (.slice A5 m5 c5)) := (by rw [← World.size_alloc wr (.cells #[.int .i64 0, .int .i64 0, .string ⟨#[]⟩, .slice none 0 0] 25)]; exact V5); have B5 : Below wr.heap.size wr w5 := ((Below.refl wr.heap.size wr).alloc (Nat.le_refl _) _).trans (hbz.mono (by omega)); obtain ⟨zc0, zc1, zc2, zc3, zf0, zf1, zf2, zf3⟩ := four_of ((hbz.block wr.heap.size (by omega)).trans (World.alloc_heap_new wr _)))); clear V5 hb))
          all_goals
            first
              | (obtain ⟨W6, hW6⟩ : ∃ U, w5.alloc (.cells #[.int .i64 k5, .int .i64 n5, .string s5, .slice A5 m5 c5] 25) = U := ⟨_, rfl⟩
                 rw [hW6]
                 obtain ⟨q1, q2, q3, q4⟩ := box_new B5 V6 hW6
                 obtain ⟨gk, hgk⟩ : ∃ x, w5.heap.size = x := ⟨_, rfl⟩
                 rw [hgk] at q3 ⊢
                 clear hW6 q4 hgk)
              | (obtain ⟨W6, hW6⟩ : ∃ U, (((w5.setCell ⟨wr.heap.size, 0, none⟩ (.int .i64 k5)).setCell ⟨wr.heap.size, 1, none⟩ (.int .i64 n5)).setCell ⟨wr.heap.size, 2, none⟩ (.string s5)).setCell ⟨wr.heap.size, 3, none⟩ (.slice A5 m5 c5) = U := ⟨_, rfl⟩
                 rw [hW6]
                 obtain ⟨q1, q2, q3, q4⟩ := box_old (by omega) hbz V7 hW6
                 obtain ⟨gk, hgk⟩ : ∃ x, wr.heap.size = x := ⟨_, rfl⟩
                 rw [hgk] at q3 ⊢
                 clear hW6 q4 hgk)
            obtain ⟨k0, k1, k2, k3, _, _, _, _⟩ := four_of q3
            have HB6 := Lib.hid q1
            have HV6 := Lib.hid q2
            have hs6 := q1.size
            have hbo := (q1.block g hgl).trans hB.out
            have o3 : W6.cell? ⟨g, 3, none⟩ = some (.slice A j c) := (four_of hbo).2.2.2.1
            have HBO := Lib.hid hbo
            have HO6 := Lib.hid (TS.own hR.out q1 (.cells #[.int .i64 k5, .int .i64 n5, .string s5, .slice A5 m5 c5] 25))
            clear q1 q2 q3 hbo RC B5 HKP
            go_wp2_with (first
              | (at_builtin; refine wpList_append_lies _ rfl _ _ 23 rfl (g + 1) 25 i0 _ 4 56 Try.underlying23 HZ.out.1 HZ.out.2.1 HZ.out.2.2.1 HZ.out.2.2.2 rfl (by decide) (.slice A j c) j _ rfl HO6.out ⟨W6.heap.size, 0, none⟩ 1 1 [.int .i64 k5, .int .i64 n5, .string s5, .slice A5 m5 c5] rfl rfl (news_alloc W6 _ _ _ rfl) (by simp [Value.oneCell']) (by decide) (by simp only [maxLen]; omega) (by omega) (by rw [World.size_alloc]; omega) _ rfl ?_; intro g4 c4 w7 hown4 hgrow4 hat4 _
                 have hb7 := grown_kept hgrow4 HBO.out HO6.out (by omega)
                 have d7 : w7.cell? ⟨g, 3, none⟩ = some (.slice A j c) := (four_of hb7).2.2.2.1
                 have f7 : w7.frozen? ⟨g, 3, none⟩ = false := by simp [World.frozen?, hb7]
                 obtain ⟨U, hU⟩ : ∃ U, w7.setCell ⟨g, 3, none⟩ (.slice (some ⟨g4, 0, none⟩) (j + 1) c4) = U := ⟨_, rfl⟩
                 have hUk : ∀ q, q ≠ g → U.heap[q]? = w7.heap[q]? := fun q hq => by rw [← hU]; exact Below.heap_setCell _ _ _ _ hq
                 have hUs : U.heap.size = w7.heap.size := by rw [← hU]; simp [World.setCell]
                 have hUb : U.heap[g]? = some (.cells #[.int .i64 k, .int .i64 n, .string s, .slice (some ⟨g4, 0, none⟩) (j + 1) c4] 25 (0, 0)) := by
                   rw [← hU]
                   simp only [World.setCell, Array.getElem?_modify]
                   simp [hb7]
                 have hTS := TS.step (U := U) hR.out HB6.out (by omega) (by omega) HV6.out hgrow4 (hat4.imp id fun h => by rw [h, World.size_alloc]; omega) hown4 (fun q hq => hUk q (by omega)) hUs
                 have hBU : Below g W5 U := by
                   rw [← hU]
                   exact ((hBl.out.trans (HB6.out.mono (by omega))).trans ((grown_chg hgrow4 HO6.out).below (fun q _ h => by omega) (by omega))).setCell (p := ⟨g, 3, none⟩) (Nat.le_refl _) _
                 have G1 := Lib.hid hTS
                 have G2 := Lib.hid hBU
                 have G3 := Lib.hid hUb
                 have HU := Lib.hid hU
                 clear hTS hBU hUb hUk hU hown4 hgrow4 hat4 hb7))
            rw [HU.out]
            go_roundw
            case rel => exact ⟨j + 1, c4, some ⟨g4, 0, none⟩, _, cnt + d5, ts ++ [T5], by omega, by go_num, rfl, HSN.out, G3.out, G1.out, G2.out⟩
            case measure => simp [intOf]; omega
        · obtain rfl : j = m := by omega
          have hkk := hK.out
          rw [List.take_of_length_le (by rw [HM.out]; exact Nat.le_refl _)] at hkk
          have HKK := Lib.hid hkk
          have hnw := TS.node hR.out (by omega) k n s hss
          have rb := (hBl.out.block (W.heap.size + 1 + 1) (by omega)).trans HR5.out
          obtain ⟨x0, x1, x2, x3, _, _, _, _⟩ := four_of hB.out
          obtain ⟨r0, r1, r2, r3, p0, p1, p2, p3⟩ := four_of rb
          have HRB := Lib.hid rb
          clear rb hkk nb yb
          go_wp2_with fail
          obtain ⟨U, hU⟩ : ∃ U, (((wr.setCell ⟨W.heap.size + 1 + 1, 0, none⟩ (.int .i64 k)).setCell ⟨W.heap.size + 1 + 1, 1, none⟩ (.int .i64 n)).setCell ⟨W.heap.size + 1 + 1, 2, none⟩ (.string s)).setCell ⟨W.heap.size + 1 + 1, 3, none⟩ (.slice A j c) = U := ⟨_, rfl⟩
          rw [hU]
          obtain ⟨f1, f2, f3⟩ := fin1 HRB.out (show W.heap.size + 1 + 1 < g + 1 by omega) (by omega) k n s (.slice A j c) hnw hU
          refine bodyPost_ret (ret_N2 rfl _ rfl rfl f1) rfl ?_
          rw [HKK.out]
          exact ⟨_, rfl, f2.lower (by omega), HBW.out.trans (f3.below (fun g _ e => by omega) HBW.out.size)⟩
  · have ey : ((y : Int) == (typ : Int)) = false := by simp; omega
    rw [if_neg hyt] at hrb1 hrb2 ⊢
    rw [if_neg (fun e => by cases e.1)] at hrb1 hrb2 ⊢
    obtain ⟨F, hF⟩ : ∃ F : TY.Nd → Int → TY.Nd × Int, TY.repl typ by_ = F := ⟨_, rfl⟩
    have hFb : ∀ t b, 0 ≤ (F t b).2 ∧ (F t b).2 ≤ (nsz t : Int) := fun t b => hF ▸ repl_bound typ by_ t b
    rw [hF] at hrb1 hrb2 ⊢
    have HFB := Lib.hid hFb
    have HFE := Lib.hid hF
    clear hFb hF
    go_enter Try.func20, Try.ntmps20
    go_wp2_with (first
      | (rw [HW3.out]; go_at_call 13; refine HTC.out.mono ?_; clear HTC; rintro e w1 ⟨rfl, hb1⟩; have hs1 := hb1.size; obtain ⟨t0, t1, t2, t3, _, _, _, _⟩ := four_of ((hb1.block (W.heap.size) (by omega)).trans HE1.out); have HB1 := Lib.hid hb1; clear hb1))
    obtain ⟨g, hg⟩ : ∃ g, w1.heap.size = g := ⟨_, rfl⟩
    rw [hg] at hs1 ⊢
    obtain ⟨W5, hW5⟩ : ∃ U, w1.alloc (.cells #[.int .i64 k, .int .i64 n, .string s, .slice none 0 0] 25) = U := ⟨_, rfl⟩
    rw [hW5]
    have z5 : W5.heap.size = g + 1 := by rw [← hW5, World.size_alloc, hg]
    have b5 : Below g w1 W5 := by rw [← hW5, ← hg]; exact (Below.refl _ _).alloc (Nat.le_refl _) _
    have hb35 : Below W3.heap.size W3 W5 := HB1.out.trans (b5.mono (by omega))
    have HE5 := Lib.hid (show W5.heap[g]? = some (.cells #[.int .i64 k, .int .i64 n, .string s, .slice none 0 0] 25 (0, 0)) by rw [← hW5, ← hg]; exact World.alloc_heap_new w1 _)
    have HN5 := Lib.hid ((hb35.block W.heap.size (by omega)).trans HE1.out)
    have HY5 := Lib.hid ((hb35.block (W.heap.size + 1) (by omega)).trans HE2.out)
    have HR5 := Lib.hid ((hb35.block (W.heap.size + 1 + 1) (by omega)).trans HE3.out)
    have HBW5 := Lib.hid (HB3.out.trans (hb35.mono (by omega)))
    clear hW5 b5 hb35 t0 t1 t2 t3 HB1 HE1 HE2 HE3 HW3 hg
    go_loopw [11, 13] (fun z i V => ∃ (j c : Nat) (A : Option Addr) (cs : List Value) (cnt : Int) (ts : List TY.Nd), j ≤ m ∧ i = .int .i64 (j : Int) ∧ z = .int .i64 cnt ∧ Hid (TY.kidsR ((l.take j).map F) a 0 = (ts, cnt)) ∧ Hid (V.heap[g]? = some (.cells #[.int .i64 k, .int .i64 n, .string s, .slice A j c] 25 (0, 0))) ∧ Hid (TS hi (g + 1) V A j c ts cs) ∧ Hid (Below g W5 V)) (fun _ i _ => m - (intOf i).toNat)
    case atStart => exact ⟨0, 0, none, [], 0, [], by omega, rfl, rfl, rfl, HE5.out, TS.nil _ _ _, Below.refl _ _⟩
    case round =>
      obtain ⟨j, c, A, cs, cnt, ts, hj, rfl, rfl, hK, hB, hR, hBl⟩ := hrel
      have hsz := hBl.out.size
      have HBW : Hid (Below W.heap.size W wr) := HBW5.out.trans (hBl.out.mono (by omega))
      have nb := (hBl.out.block W.heap.size (by omega)).trans HN5.out
      have yb := (hBl.out.block (W.heap.size + 1) (by omega)).trans HY5.out
      obtain ⟨_, _, _, d3w, _, _, _, _⟩ := four_of nb
      by_cases hjm : j < m
      · obtain ⟨t, ht⟩ : ∃ t, l[j]? = some t := ⟨l[j]'(by rw [HM.out]; exact hjm), List.getElem?_eq_getElem (by rw [HM.out]; exact hjm)⟩
        obtain ⟨vj, hvj⟩ : ∃ x, vs[j]? = some x := ⟨vs[j]'(by rw [HVL.out]; exact hjm), List.getElem?_eq_getElem (by rw [HVL.out]; exact hjm)⟩
        have hnv := HKI.out j t vj ht hvj
        obtain ⟨b, off, kj, nj, sj, Aj, lj, cj, rfl, hbh, rfl, c0', c1, c2', c3⟩ := HKD.out.tree hvj hnv
        have hbW : b < W.heap.size := by omega
        have g0 := (HBW.out.cell (p := ⟨b, off + j * 4, none⟩) hbW).trans c0'
        have g1 := (HBW.out.cell (p := ⟨b, off + j * 4 + 1, none⟩) hbW).trans c1
        have g2 := (HBW.out.cell (p := ⟨b, off + j * 4 + 2, none⟩) hbW).trans c2'
        have g3 := (HBW.out.cell (p := ⟨b, off + j * 4 + 3, none⟩) hbW).trans c3
        obtain ⟨y0, y1, y2, y3, _, _, _, _⟩ := four_of yb
        have hkb := kidsR_bound a (l.take j) F 0 (fun x _ b => HFB.out x b)
        rw [hK.out] at hkb
        have hsm := HSUM.out j t ht
        rw [HSS.out] at hsm
        have hFt := HFB.out t (a - cnt)
        have hk1 : 0 ≤ cnt := hkb.1
        have hk2 : cnt ≤ 0 + (((l.take j).map nsz).sum : Nat) := hkb.2
        have hwr : IntKind.i64.wrap (a - cnt) = a - cnt := IntWalk.i64_in _ (by omega)
        have RC := Lib.hid (fun (V : World) (hV : Below W.heap.size W V) => HFE.out ▸ HIH.out t (List.mem_of_getElem? ht) V hi _ _ (a - cnt) (hnv.under (hV.mono hh) (Nat.le_refl _)) (HVB.out.under (hV.mono hh) (Nat.le_refl _)) (Nat.le_trans hh hV.size) (by omega) (by omega))
        have HSN := Lib.hid (show TY.kidsR ((l.take (j + 1)).map F) a 0 = (ts ++ [(F t (a - cnt)).1], cnt + (F t (a - cnt)).2) by
          rw [List.take_add_one, ht, List.map_append]
          show TY.kidsR (_ ++ [F t]) a 0 = _
          rw [kidsR_snoc, hK.out])
        obtain ⟨⟨T5, d5⟩, hT5⟩ : ∃ T, F t (a - cnt) = T := ⟨_, rfl⟩
        rw [hT5] at RC HSN hFt
        have hwc : IntKind.i64.wrap (cnt + d5) = cnt + d5 := IntWalk.i64_in _ (by have h1 := hFt.1; have h2 := hFt.2; simp only at h1 h2; omega)
        have r3 : wr.cell? ⟨g, 3, none⟩ = some (.slice A j c) := (four_of hB.out).2.2.2.1
        have hgl := heap_lt hB.out
        have hjb : j ≤ 1000000 := by omega
        have B5 : Below wr.heap.size wr wr := Below.refl _ _
        have lb : b < wr.heap.size := by omega
        have ln : W.heap.size < wr.heap.size := by omega
        have ly : W.heap.size + 1 < wr.heap.size := by omega
        clear hnv c0' c1 c2' c3 ht hvj hT5 hkb hk1 hk2 hsm hFt nb yb hK
        go_wp2_with fail
        have HKP := Lib.hid (fun (V : World) (B5 : Below wr.heap.size wr V) => (show V.cell? ⟨W.heap.size, 3, none⟩ = some (.slice (some ⟨b, off, none⟩) m c0) ∧ V.cell? ⟨b, off + j * 4, none⟩ = some (.int .i64 kj) ∧ V.cell? ⟨b, off + j * 4 + 1, none⟩ = some (.int .i64 nj) ∧ V.cell? ⟨b, off + j * 4 + 2, none⟩ = some (.string sj) ∧ V.cell? ⟨b, off + j * 4 + 3, none⟩ = some (.slice Aj lj cj) ∧ V.cell? ⟨W.heap.size + 1, 0, none⟩ = some (.int .i64 kb) ∧ V.cell? ⟨W.heap.size + 1, 1, none⟩ = some (.int .i64 nb) ∧ V.cell? ⟨W.heap.size + 1, 2, none⟩ = some (.string sb) ∧ V.cell? ⟨W.heap.size + 1, 3, none⟩ = some (.slice Ab mb cb) from ⟨(B5.cell (p := ⟨W.heap.size, 3, none⟩) ln).trans d3w, (B5.cell (p := ⟨b, off + j * 4, none⟩) lb).trans g0, (B5.cell (p := ⟨b, off + j * 4 + 1, none⟩) lb).trans g1, (B5.cell (p := ⟨b, off + j * 4 + 2, none⟩) lb).trans g2, (B5.cell (p := ⟨b, off + j * 4 + 3, none⟩) lb).trans g3, (B5.cell (p := ⟨W.heap.size + 1, 0, none⟩) ly).trans y0, (B5.cell (p := ⟨W.heap.size + 1, 1, none⟩) ly).trans y1, (B5.cell (p := ⟨W.heap.size + 1, 2, none⟩) ly).trans y2, (B5.cell (p := ⟨W.heap.size + 1, 3, none⟩) ly).trans y3⟩))
        go_region_held3 (fun V => V.cell? ⟨W.heap.size, 3, none⟩ = some (.slice (some ⟨b, off, none⟩) m c0) ∧ V.cell? ⟨b, off + j * 4, none⟩ = some (.int .i64 kj) ∧ V.cell? ⟨b, off + j * 4 + 1, none⟩ = some (.int .i64 nj) ∧ V.cell? ⟨b, off + j * 4 + 2, none⟩ = some (.string sj) ∧ V.cell? ⟨b, off + j * 4 + 3, none⟩ = some (.slice Aj lj cj) ∧ V.cell? ⟨W.heap.size + 1, 0, none⟩ = some (.int .i64 kb) ∧ V.cell? ⟨W.heap.size + 1, 1, none⟩ = some (.int .i64 nb) ∧ V.cell? ⟨W.heap.size + 1, 2, none⟩ = some (.string sb) ∧ V.cell? ⟨W.heap.size + 1, 3, none⟩ = some (.slice Ab mb cb))
          (first | exact HKP.out _ B5 | exact HKP.out _ B5.drew | exact HKP.out _ (B5.alloc B5.size _) | exact HKP.out _ (B5.alloc B5.size _).drew | exact HKP.out _ ((((B5.setCell (p := ⟨wr.heap.size, 0, none⟩) (Nat.le_refl _) _).setCell (p := ⟨wr.heap.size, 1, none⟩) (Nat.le_refl _) _).setCell (p := ⟨wr.heap.size, 2, none⟩) (Nat.le_refl _) _).setCell (p := ⟨wr.heap.size, 3, none⟩) (Nat.le_refl _) _))
          (first
            | (go_at_call 20; ((with_reducible refine (RC.out _ ?_).mono ?_); focus (first | exact HBW.out | exact HBW.out.drew | exact (HBW.out.alloc HBW.out.size _) | exact (HBW.out.alloc HBW.out.size _).drew)); rintro e5 w5 ⟨v5, rfl, V5, hb⟩; obtain ⟨k5, n5, s5, A5, m5, c5, rfl⟩ := V5.shape; (first | (have B5 : Below wr.heap.size wr w5 := ((Below.refl wr.heap.size wr).drew.trans hb); have V6 : Ny hi wr.heap.size none w5 T5 (ndv k5 n5 s5 (.slice A5 m5 c5)) := V5) | (have hbz : Below (wr.heap.size + 1) (wr.alloc (.cells #[.int .i64 0, .int .i64 0, .string ⟨#[]⟩, .slice none 0 0] 25)) w5 := (by rw [← World.size_alloc wr (.cells #[.int .i64 0, .int .i64 0, .string ⟨#[]⟩, .slice none 0 0] 25)]; first | exact hb | exact (Below.refl _ _).drew.trans hb); have V7 : Ny hi (wr.heap.size + 1) none w5 T5 (ndv k5 n5 s5 (.slice A5 m5 c5)) := (by rw [← World.size_alloc wr (.cells #[.int .i64 0, .int .i64 0, .string ⟨#[]⟩, .slice none 0 0] 25)]; exact V5); have B5 : Below wr.heap.size wr w5 := ((Below.refl wr.heap.size wr).alloc (Nat.le_refl _) _).trans (hbz.mono (by omega)); obtain ⟨zc0, zc1, zc2, zc3, zf0, zf1, zf2, zf3⟩ := four_of ((hbz.block wr.heap.size (by omega)).trans (World.alloc_heap_new wr _)))); clear V5 hb))
        all_goals
          first
            | (obtain ⟨W6, hW6⟩ : ∃ U, w5.alloc (.cells #[.int .i64 k5, .int .i64 n5, .string s5, .slice A5 m5 c5] 25) = U := ⟨_, rfl⟩
               rw [hW6]
               obtain ⟨q1, q2, q3, q4⟩ := box_new B5 V6 hW6
               obtain ⟨gk, hgk⟩ : ∃ x, w5.heap.size = x := ⟨_, rfl⟩
               rw [hgk] at q3 ⊢
               clear hW6 q4 hgk)
            | (obtain ⟨W6, hW6⟩ : ∃ U, (((w5.setCell ⟨wr.heap.size, 0, none⟩ (.int .i64 k5)).setCell ⟨wr.heap.size, 1, none⟩ (.int .i64 n5)).setCell ⟨wr.heap.size, 2, none⟩ (.string s5)).setCell ⟨wr.heap.size, 3, none⟩ (.slice A5 m5 c5) = U := ⟨_, rfl⟩
               rw [hW6]
               obtain ⟨q1, q2, q3, q4⟩ := box_old (by omega) hbz V7 hW6
               obtain ⟨gk, hgk⟩ : ∃ x, wr.heap.size = x := ⟨_, rfl⟩
               rw [hgk] at q3 ⊢
               clear hW6 q4 hgk)
          obtain ⟨k0, k1, k2, k3, _, _, _, _⟩ := four_of q3
          have HB6 := Lib.hid q1
          have HV6 := Lib.hid q2
          have hs6 := q1.size
          have hbo := (q1.block g hgl).trans hB.out
          have o3 : W6.cell? ⟨g, 3, none⟩ = some (.slice A j c) := (four_of hbo).2.2.2.1
          have HBO := Lib.hid hbo
          have HO6 := Lib.hid (TS.own hR.out q1 (.cells #[.int .i64 k5, .int .i64 n5, .string s5, .slice A5 m5 c5] 25))
          clear q1 q2 q3 hbo RC B5 HKP
          go_wp2_with (first
            | (at_builtin; refine wpList_append_lies _ rfl _ _ 23 rfl (g + 1) 25 i0 _ 4 56 Try.underlying23 HZ.out.1 HZ.out.2.1 HZ.out.2.2.1 HZ.out.2.2.2 rfl (by decide) (.slice A j c) j _ rfl HO6.out ⟨W6.heap.size, 0, none⟩ 1 1 [.int .i64 k5, .int .i64 n5, .string s5, .slice A5 m5 c5] rfl rfl (news_alloc W6 _ _ _ rfl) (by simp [Value.oneCell']) (by decide) (by simp only [maxLen]; omega) (by omega) (by rw [World.size_alloc]; omega) _ rfl ?_; intro g4 c4 w7 hown4 hgrow4 hat4 _
               have hb7 := grown_kept hgrow4 HBO.out HO6.out (by omega)
               have d7 : w7.cell? ⟨g, 3, none⟩ = some (.slice A j c) := (four_of hb7).2.2.2.1
               have f7 : w7.frozen? ⟨g, 3, none⟩ = false := by simp [World.frozen?, hb7]
               obtain ⟨U, hU⟩ : ∃ U, w7.setCell ⟨g, 3, none⟩ (.slice (some ⟨g4, 0, none⟩) (j + 1) c4) = U := ⟨_, rfl⟩
               have hUk : ∀ q, q ≠ g → U.heap[q]? = w7.heap[q]? := fun q hq => by rw [← hU]; exact Below.heap_setCell _ _ _ _ hq
               have hUs : U.heap.size = w7.heap.size := by rw [← hU]; simp [World.setCell]
               have hUb : U.heap[g]? = some (.cells #[.int .i64 k, .int .i64 n, .string s, .slice (some ⟨g4, 0, none⟩) (j + 1) c4] 25 (0, 0)) := by
                 rw [← hU]
                 simp only [World.setCell, Array.getElem?_modify]
                 simp [hb7]
               have hTS := TS.step (U := U) hR.out HB6.out (by omega) (by omega) HV6.out hgrow4 (hat4.imp id fun h => by rw [h, World.size_alloc]; omega) hown4 (fun q hq => hUk q (by omega)) hUs
               have hBU : Below g W5 U := by
                 rw [← hU]
                 exact ((hBl.out.trans (HB6.out.mono (by omega))).trans ((grown_chg hgrow4 HO6.out).below (fun q _ h => by omega) (by omega))).setCell (p := ⟨g, 3, none⟩) (Nat.le_refl _) _
               have G1 := Lib.hid hTS
               have G2 := Lib.hid hBU
               have G3 := Lib.hid hUb
               have HU := Lib.hid hU
               clear hTS hBU hUb hUk hU hown4 hgrow4 hat4 hb7))
          rw [HU.out]
          go_roundw
          case rel => exact ⟨j + 1, c4, some ⟨g4, 0, none⟩, _, cnt + d5, ts ++ [T5], by omega, by go_num, rfl, HSN.out, G3.out, G1.out, G2.out⟩
          case measure => simp [intOf]; omega
      · obtain rfl : j = m := by omega
        have hkk := hK.out
        rw [List.take_of_length_le (by rw [HM.out]; exact Nat.le_refl _)] at hkk
        have HKK := Lib.hid hkk
        have hnw := TS.node hR.out (by omega) k n s hss
        have rb := (hBl.out.block (W.heap.size + 1 + 1) (by omega)).trans HR5.out
        obtain ⟨x0, x1, x2, x3, _, _, _, _⟩ := four_of hB.out
        obtain ⟨r0, r1, r2, r3, p0, p1, p2, p3⟩ := four_of rb
        have HRB := Lib.hid rb
        clear rb hkk nb yb
        go_wp2_with fail
        obtain ⟨U, hU⟩ : ∃ U, (((wr.setCell ⟨W.heap.size + 1 + 1, 0, none⟩ (.int .i64 k)).setCell ⟨W.heap.size + 1 + 1, 1, none⟩ (.int .i64 n)).setCell ⟨W.heap.size + 1 + 1, 2, none⟩ (.string s)).setCell ⟨W.heap.size + 1 + 1, 3, none⟩ (.slice A j c) = U := ⟨_, rfl⟩
        rw [hU]
        obtain ⟨f1, f2, f3⟩ := fin1 HRB.out (show W.heap.size + 1 + 1 < g + 1 by omega) (by omega) k n s (.slice A j c) hnw hU
        refine bodyPost_ret (ret_N2 rfl _ rfl rfl f1) rfl ?_
        rw [HKK.out]
        exact ⟨_, rfl, f2.lower (by omega), HBW.out.trans (f3.below (fun g _ e => by omega) HBW.out.size)⟩
end Go.Proofs.Ytofeidacffabdaa
