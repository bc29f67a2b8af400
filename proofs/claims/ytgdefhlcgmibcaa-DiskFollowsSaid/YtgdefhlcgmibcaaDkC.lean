/-
  The package's surviving, New, View and Sync. No condition but the lengths.
-/
import Derived.Test.YtgdefhlcgmibcaaDkA
namespace Go.Proofs.Ytgdefhlcgmibcaa
open Go Go.RowKit Go.Proofs
attribute [local go_sem] Oper.semAt_some

theorem dk_own_keep {w w' : World} {base n : Nat} {t : TypeId} {size : Nat} {x : Value} {vs : List Value} (h : w.ownsRow base t size x n vs) (hb : Below w.heap.size w w') : w'.ownsRow base t size x n vs := by
  refine ⟨h.1, ?_⟩
  rcases h.2 with h0 | ⟨g, cap, cur, e, h1, h2, h3⟩
  · exact .inl h0
  · exact .inr ⟨g, cap, cur, e, h1, (hb.block g (blk_lt h2)).trans h2, h3⟩
theorem dk_own_slice {w : World} {base n : Nat} {t : TypeId} {size : Nat} {x : Value} {vs : List Value} (h : w.ownsRow base t size x n vs) : ∃ A c, x = .slice A n c := by
  rcases h.2 with ⟨rfl, rfl⟩ | ⟨g, cap, cur, rfl, _⟩
  · exact ⟨none, 0, rfl⟩
  · exact ⟨_, cap, rfl⟩
theorem dk_grown {w V V' : World} {base n : Nat} {t : TypeId} {size : Nat} {x : Value} {vs : List Value} (h : V.ownsRow base t size x n vs) (hb : Below base w V) (hg : V.grownBy V' x.ownBlock) (hl : base ≤ V.heap.size) : Below base w V' := by
  refine hb.grown hg hl fun k hk => ?_
  exact (World.ownsRow.lt h k hk).1
set_option maxHeartbeats 4000000 in
set_option maxRecDepth 100000 in
theorem surviving_any {lo lo' n c m q : Nat} {A W : Option Addr} {bs : List Bool} {ws : List DK.Wr} (w : World) (hx : Bls lo w A n c bs) (hw : Wrs lo' w W m q ws) (bn : n ≤ 1000) (bm : m ≤ 1000) :
    Calls Try.prog 38 #[.slice A n c, .slice W m q] w fun e w' => (∃ B r, e = .returned (.slice B (DK.kept bs ws).length r) ∧ Wrs w.heap.size w' B (DK.kept bs ws).length r (DK.kept bs ws)) ∧ Below w.heap.size w w' := by
  obtain ⟨i0, hi, hz0, hz1, hz2⟩ := dk_info dk_wr
  have HW := Lib.hid hw
  have HX := Lib.hid hx
  have HN := Lib.hid (And.intro hx.len hw.len)
  have HI := Lib.hid (And.intro hi (And.intro hz0 (And.intro hz1 hz2)))
  clear hx hw hi hz0 hz1 hz2
  go_enter Try.func38, Try.ntmps38
  go_wp2_with fail
  go_loopw [5, 10] (fun o i V => ∃ k : Nat, k ≤ m ∧ i = .int .i64 (k : Int) ∧ (∃ B r, o = .slice B (DK.kept bs (ws.take k)).length r) ∧ Hid (V.ownsRow w.heap.size 46 2 o (DK.kept bs (ws.take k)).length (DK.wrsC (DK.kept bs (ws.take k)))) ∧ Hid (Below w.heap.size w V)) (fun _ i _ => m - (intOf i).toNat)
  case atStart => exact ⟨0, by omega, rfl, ⟨none, 0, by simp [DK.kept_none']⟩, show World.ownsRow _ _ _ _ _ _ _ by simp [DK.kept_none', DK.wrsC]; exact ⟨rfl, .inl ⟨rfl, rfl⟩⟩, Below.refl _ _⟩
  case round =>
    obtain ⟨k, hk, rfl, ⟨B, r, rfl⟩, HO, HV⟩ := hrel
    by_cases hin : k < m
    · have dk : decide (k < m) = true := decide_eq_true hin
      obtain ⟨g, off, a, v, rfl, hlo, hg, hxk, c0, c1⟩ := HW.out.at_ hin
      have c0' := (HV.out.cell (p := ⟨g, off + k * 2, none⟩) hg).trans c0
      have c1' := (HV.out.cell (p := ⟨g, off + k * 2 + 1, none⟩) hg).trans c1
      have HS := Lib.hid (DK.kept_step (bs := bs) hxk)
      have HKL := Lib.hid (show (DK.kept bs (ws.take k)).length ≤ 1000 from Nat.le_trans (DK.kept_len bs (ws.take k)) (by rw [List.length_take]; omega))
      clear c0 c1 hxk hlo
      obtain ⟨K, hK⟩ : ∃ K, DK.kept bs (ws.take k) = K := ⟨_, rfl⟩
      rw [hK] at HS HO HKL ⊢
      obtain ⟨Z, hZ⟩ : ∃ Z, wr.alloc (.cells #[.int .i64 a, .int .i64 v] 46) = Z := ⟨_, rfl⟩
      have hbZ : Below wr.heap.size wr Z := hZ ▸ dk_box wr _
      have hsZ : Z.heap.size = wr.heap.size + 1 := by rw [← hZ]; simp
      obtain ⟨z0, z1⟩ := dk_two (show Z.heap[wr.heap.size]? = some (.cells #[.int .i64 a, .int .i64 v] 46 (0, 0)) by rw [← hZ]; exact dk_new_at rfl)
      have HZ := Lib.hid (And.intro (HV.out.trans (hbZ.mono HV.out.size)) (And.intro hbZ hsZ))
      clear hbZ hsZ hK
      by_cases hkn : k < n
      · have dn : decide (k < n) = true := decide_eq_true hkn
        obtain ⟨gb, ob, b, rfl, hlb, hgb, hbk, cb⟩ := HX.out.at_ hkn
        have cb' := ((HV.out.trans ((HZ.out.2.1).mono HV.out.size)).cell (p := ⟨gb, ob + k, none⟩) hgb).trans cb
        have HBK := Lib.hid hbk
        clear cb hbk hlb
        cases b with
        | true =>
          have HS2 := Lib.hid (show DK.kept bs (ws.take (k + 1)) = K ++ [(a, v)] by rw [HS.out, HBK.out]; rfl)
          obtain ⟨Y, hY⟩ : ∃ Y, Z.alloc (.cells #[.int .i64 a, .int .i64 v] 46) = Y := ⟨_, rfl⟩
          have hbY : Below Z.heap.size Z Y := hY ▸ dk_box Z _
          have hy := dk_two (show Y.heap[Z.heap.size]? = some (.cells #[.int .i64 a, .int .i64 v] 46 (0, 0)) by rw [← hY]; exact dk_new_at rfl)
          have hsrc : RgX.Src Y (some ⟨Z.heap.size, 0, none⟩) 1 1 (DK.wrC (a, v)) := .inr ⟨_, rfl, fun j u hu => by
            match j, hu with
            | 0, hu => injection hu with hu; subst hu; exact hy.1
            | 1, hu => injection hu with hu; subst hu; exact hy.2⟩
          have hwy := HZ.out.1.trans (hbY.mono HZ.out.1.size)
          have hoy := dk_own_keep (dk_own_keep HO.out HZ.out.2.1) hbY
          have HY := Lib.hid (And.intro hoy (And.intro hsrc (And.intro hwy hwy.size)))
          have H1 := Lib.hid (show ∀ u ∈ DK.wrC (a, v), u.oneCell' = true by intro u hu; simp [DK.wrC] at hu; rcases hu with rfl | rfl <;> rfl)
          have HM := Lib.hid (And.intro (show K.length + 1 ≤ maxLen by have := HKL.out; simp only [maxLen]; omega) (show (K.length + 1) * 16 ≤ 140737488355328 by have := HKL.out; omega))
          clear hbY hy hsrc hwy hoy
          go_wp2_with (at_builtin; refine RgX.wpList_append_any rfl _ _ 24 rfl w.heap.size 46 i0 _ 2 16 Try.underlying24 HI.out.1 HI.out.2.1 HI.out.2.2.1 HI.out.2.2.2 rfl (by decide) _ K.length (DK.wrsC K) rfl HY.out.1 (some ⟨Z.heap.size, 0, none⟩) 1 1 (DK.wrC (a, v)) rfl rfl HY.out.2.1 H1.out HM.out.1 HM.out.2 HY.out.2.2.2 ?_; intro B2 r2 Z2 ho2 hg2)
          go_roundw
          case rel =>
            refine ⟨k + 1, by omega, by go_num, ⟨B2, r2, by rw [HS2.out, List.length_append]; rfl⟩, show World.ownsRow _ _ _ _ _ _ _ by rw [HS2.out, DK.wrsC_app, List.length_append]; exact ho2, dk_grown HY.out.1 HY.out.2.2.1 hg2 HY.out.2.2.2⟩
          case measure => simp [intOf]; omega
        | false =>
          have HS2 := Lib.hid (show DK.kept bs (ws.take (k + 1)) = K by rw [HS.out, HBK.out]; simp)
          go_wp2_with fail
          go_roundw
          case rel => exact ⟨k + 1, by omega, by go_num, ⟨B, r, by rw [HS2.out]⟩, show World.ownsRow _ _ _ _ _ _ _ by rw [HS2.out]; exact dk_own_keep HO.out HZ.out.2.1, HZ.out.1⟩
          case measure => simp [intOf]; omega
      · have dn : decide (k < n) = false := decide_eq_false hkn
        have HS2 := Lib.hid (show DK.kept bs (ws.take (k + 1)) = K by rw [HS.out, List.getElem?_eq_none (by have := HN.out.1; omega)]; simp)
        go_wp2_with fail
        go_roundw
        case rel => exact ⟨k + 1, by omega, by go_num, ⟨B, r, by rw [HS2.out]⟩, show World.ownsRow _ _ _ _ _ _ _ by rw [HS2.out]; exact dk_own_keep HO.out HZ.out.2.1, HZ.out.1⟩
        case measure => simp [intOf]; omega
    · obtain rfl : k = m := by omega
      have dk : decide (k < k) = false := decide_eq_false hin
      have HT := Lib.hid (show ws.take k = ws from List.take_of_length_le (Nat.le_of_eq HN.out.2))
      rw [HT.out] at HO ⊢
      go_wp2_with fail
      go_ret
      exact ⟨⟨B, r, rfl, Rw.of_own HO.out⟩, HV.out⟩
theorem dk_ret {fn : Func} {p : Tmp} (hf : fn.results = #[.cell p 26]) {V : World} {b : Nat} {x0 x1 : Value} (tmps : Array Value) (hp : tmps.getD p undef = .pointer (some ⟨b, 0, none⟩)) (h : V.heap[b]? = some (.cells #[x0, x1] 26 (0, 0))) : (results fn tmps).run Try.prog V = .ok (.agg #[x0, x1]) V := by
  obtain ⟨c0, c1⟩ := dk_two h
  have ia := Try.isAgg26
  have so := Try.sizeOf26
  simp only [results, hf]
  have hp' : tmps[p]?.getD undef = .pointer (some ⟨b, 0, none⟩) := by simpa using hp
  simp [go_sem, hp', c0, c1, ia, so]
theorem dk_two_boxes (w : World) (A B : Obj) : ∃ U, (w.alloc A).alloc B = U ∧ Below w.heap.size w U ∧ U.heap[w.heap.size]? = some A ∧ U.heap[w.heap.size + 1]? = some B ∧ U.heap.size = w.heap.size + 2 := by
  refine ⟨_, rfl, ((Below.refl _ _).alloc (Nat.le_refl _) _).alloc (by simp) _, ?_, dk_new_at (by simp), by simp⟩
  rw [Below.heap_alloc _ _ _ (by simp)]
  exact dk_new_at rfl
/-- A disk stored into a box. -/
theorem dk_store {ops : Array Oper} {rest : List Oper} {o : Oper} {a : Act} {w : World} {Q : Exit → Act → World → Prop} (hgd : o.guard = none) (x y : Operand) (ho : o.op = .store 26 x y) (b : Nat) (A : Option Addr) (n c : Nat) (P : Option Addr) (m q : Nat) (y0 y1 : Value)
    (hx : a.eval x = .pointer (some ⟨b, 0, none⟩)) (hy : a.eval y = .agg #[.slice A n c, .slice P m q]) (hg : w.heap[b]? = some (.cells #[y0, y1] 26 (0, 0)))
    (h : ∀ W', W'.heap[b]? = some (.cells #[.slice A n c, .slice P m q] 26 (0, 0)) → (∀ k, k ≠ b → W'.heap[k]? = w.heap[k]?) → W'.heap.size = w.heap.size → Below b w W' → wpList Try.prog ops Q rest (a.put o.dst undef) W') : wpList Try.prog ops Q (o :: rest) a w :=
  RgX.wpList_store_seg hgd 26 x y ho b 0 _ hx hy 26 #[y0, y1] hg dk_sz_disk (by show 0 + 2 ≤ 2; omega) (by simp [Value.cells, Value.oneCell']) #[.slice A n c, .slice P m q] rfl h
theorem zeros_ints (k : Nat) : (Array.replicate k (Value.int .i64 0)) = (DK.intsC (List.replicate k 0)).toArray := by
  unfold DK.intsC
  rw [List.map_replicate, List.toArray_replicate]
set_option maxHeartbeats 1000000 in
theorem new_row (k : Nat) (hk : k ≤ 16) (w : World) : Calls Try.prog 12 #[.int .i64 (k : Int)] w fun e w' => (∃ g, e = .returned (.agg #[.slice (some ⟨g, 0, none⟩) k k, .slice none 0 0]) ∧ w.heap.size ≤ g ∧ w'.heap[g]? = some (.cells (DK.intsC (List.replicate k 0)).toArray 3 (0, 0))) ∧ Below w.heap.size w w' := by
  have hmk := dk_make_ints k (by omega)
  have d1 : max (k : Int) 0 = (k : Int) := by omega
  have d2 : min (k : Int) 16 = (k : Int) := by omega
  obtain ⟨U, hU, hb, k0, k1, hz⟩ := dk_two_boxes w (.cells #[.slice (some ⟨w.heap.size + 1, 0, none⟩) k k, .slice none 0 0] 26) (.cells (Array.replicate k (.int .i64 0)) 3)
  have HU := Lib.hid (And.intro hb (And.intro k0 k1))
  have HE := Lib.hid hU
  clear hb k0 k1 hz hU
  go_enter Try.func12, Try.ntmps12
  go_wp2_with fail
  rw [HE.out]
  refine bodyPost_ret (dk_ret rfl _ rfl HU.out.2.1) rfl ?_
  exact ⟨⟨_, rfl, by omega, by rw [HU.out.2.2, zeros_ints]⟩, HU.out.1⟩
theorem new_any (k : Nat) (hk : k ≤ 16) (w : World) : Calls Try.prog 12 #[.int .i64 (k : Int)] w fun e w' => (∃ x, e = .returned x ∧ DkAt w.heap.size w' x (DK.new k)) ∧ Below w.heap.size w w' :=
  (new_row k hk w).mono fun _ _ ⟨⟨_, e, hl, hg⟩, hb⟩ => ⟨⟨_, e, _, k, k, _, _, _, rfl, Cls.of_block hg hl (by simp [DK.new]) (by omega), Rw.nil _ _ _ _⟩, hb⟩
set_option maxHeartbeats 1000000 in
theorem view_any {lo : Nat} {x : Value} {d : DK.Dk} (w : World) (h : DkAt lo w x d) (bn : d.cells.length ≤ 1000) (bm : d.pend.length ≤ 1000) : Calls Try.prog 19 #[x] w fun e w' => (∃ g, e = .returned (.slice (some ⟨g, 0, none⟩) d.cells.length d.cells.length) ∧ w.heap.size ≤ g ∧ w'.heap[g]? = some (.cells (DK.intsC (DK.view d)).toArray 3 (0, 0))) ∧ Below w.heap.size w w' := by
  obtain ⟨A, n, c, P, m, q, rfl, h1, h2⟩ := h
  obtain ⟨U, hU⟩ : ∃ U, w.alloc (.cells #[.slice A n c, .slice P m q] 26) = U := ⟨_, rfl⟩
  have hb : Below w.heap.size w U := hU ▸ dk_box w _
  obtain ⟨k0, k1⟩ := dk_two (show U.heap[w.heap.size]? = some (.cells #[.slice A n c, .slice P m q] 26 (0, 0)) by rw [← hU]; exact dk_new_at rfl)
  have hn := h1.len
  have hm := h2.len
  have H := Lib.hid (after_any U (h1.keep hb) (h2.keep hb) (by omega) (by omega))
  have HB := Lib.hid hb
  clear h1 h2 hb
  have HN := Lib.hid hn
  clear hn hm
  go_enter Try.func19, Try.ntmps19
  go_wp2_with (go_at_call 35; refine H.out.mono ?_; rintro e w2 ⟨⟨g, rfl, hg, hk⟩, hb2⟩)
  go_ret
  rw [HN.out]
  exact ⟨⟨g, rfl, Nat.le_trans HB.out.size hg, hk⟩, HB.out.trans (hb2.mono HB.out.size)⟩
set_option maxHeartbeats 1000000 in
theorem sync_any {lo : Nat} {x : Value} {d : DK.Dk} (w : World) (h : DkAt lo w x d) (bn : d.cells.length ≤ 1000) (bm : d.pend.length ≤ 1000) : Calls Try.prog 24 #[x] w fun e w' => (∃ y, e = .returned y ∧ DkAt w.heap.size w' y (DK.sync d)) ∧ Below w.heap.size w w' := by
  have h0 := h
  obtain ⟨A, n, c, P, m, q, rfl, h1, h2⟩ := h
  obtain ⟨U, hU, hb, k0, k1, hz⟩ := dk_two_boxes w (.cells #[.slice A n c, .slice P m q] 26) (.cells #[.slice none 0 0, .slice none 0 0] 26)
  obtain ⟨c0, c1⟩ := dk_two k0
  have hn := h1.len
  have H := Lib.hid (view_any U (h0.keep hb) bn bm)
  have HU := Lib.hid (And.intro hb (And.intro k1 hz))
  have HN := Lib.hid (show (DK.view d).length = d.cells.length from DK.view_len d)
  clear h0 h1 h2 hb k0 k1 hz hn
  go_enter Try.func24, Try.ntmps24
  go_wp2_with (first | (go_at_call 19; refine H.out.mono ?_; rintro e w2 ⟨⟨g, rfl, hg, hk⟩, hb2⟩; have HK := Lib.hid (And.intro hg (And.intro hk hb2)); have hres := (hb2.block _ (by have := HU.out.2.2; omega)).trans HU.out.2.1; have HR := Lib.hid hres; clear hg hk hb2 hres) | (refine dk_store rfl _ _ rfl (w.heap.size + 1) (some ⟨g, 0, none⟩) d.cells.length d.cells.length none 0 0 _ _ rfl rfl HR.out ?_; intro w3 k3 ho3 hz3 hb3))
  refine bodyPost_ret (dk_ret rfl _ rfl k3) rfl ?_
  obtain ⟨hg, hk, hb2⟩ := HK.out
  obtain ⟨hb, k1, hz⟩ := HU.out
  have hk3 := (ho3 g (by omega)).trans hk
  exact ⟨⟨_, rfl, _, _, _, _, _, _, rfl, Cls.of_block hk3 (by omega) HN.out (by omega), Rw.nil _ _ _ _⟩, (hb.trans (hb2.mono hb.size)).trans (hb3.mono (by omega))⟩
end Go.Proofs.Ytgdefhlcgmibcaa
