/-
  The walk of the law TypesModular. No condition beyond the argument's reading.
-/
import Derived.Test.YtofeidacffabdaaTyUv
import Derived.Test.YtofeidacffabdaaTyLv
import Derived.Deep.RegionHeld3
namespace Go.Proofs.Ytofeidacffabdaa.LawTypesModular
open Go Go.RowKit Go.Proofs Go.Shelf
attribute [local go_sem] Oper.semAt_some

theorem all_take_snoc' {α : Type} {P : α → Bool} {l : List α} {j : Nat} {x : α} (hx : l[j]? = some x) : (l.take (j + 1)).all P = ((l.take j).all P && P x) := by
  rw [List.take_add_one, hx, List.all_append]
  simp
set_option maxRecDepth 100000 in
set_option maxHeartbeats 4000000 in
theorem walk (a0 : Option Addr) (len0 cap0 : Nat) (z0 : List Int) (w : World) (w0 : Row .i64 w a0 len0 cap0 z0) :
    Calls Try.prog 7 #[.slice a0 len0 cap0] w fun e w' => e = .returned (.bool true) ∧ Below w.heap.size w w' := by
  obtain ⟨_, _, _, hwf0⟩ := w0.ints
  have HX := Lib.hid (Unit_any a0 len0 cap0 _ w w0.slc (i64_of hwf0))
  obtain ⟨u, hu⟩ : ∃ u, unitT (z0.take len0) = u := ⟨_, rfl⟩
  rw [hu] at HX
  clear hu w0 hwf0
  go_enter Try.func7, Try.ntmps7
  go_wp2_with fail
  refine HX.out.mono ?_
  clear HX
  rintro r w1 ⟨v, rfl, hv, hb1⟩
  obtain ⟨Ad, md, cd, Av, mv, cv, A, m, c, rfl, hd, hvl, hm, l1, l2, l3, l4, l5, l6, l7, l8, l9, s1, s2, s3⟩ := hv.shape
  have hs1 := hb1.size
  obtain ⟨W2, h2⟩ : ∃ U, w1.alloc (.cells #[.slice Ad md cd, .slice Av mv cv, .slice A m c] 35) = U := ⟨_, rfl⟩
  have z2 : W2.heap.size = w1.heap.size + 1 := by rw [← h2, World.size_alloc]
  have b2 : Below w1.heap.size w1 W2 := by rw [← h2]; exact (Below.refl _ _).alloc (Nat.le_refl _) _
  have e2 : W2.heap[w1.heap.size]? = some (.cells #[.slice Ad md cd, .slice Av mv cv, .slice A m c] 35 (0, 0)) := by rw [← h2]; exact World.alloc_heap_new w1 _
  have CK := Lib.hid (fun V (hV : Below W2.heap.size W2 V) => hv.check (b2.trans (hV.mono b2.size)))
  have LV := Lib.hid (fun V => lives_any V)
  -- a handler alone
  have ONE := Lib.hid (fun (V : World) (hV : Below W2.heap.size W2 V) (g : Nat) (x : Int × TY.Nd) (k n : Int) (s : ByteArray) (A' : Option Addr) (mk ck : Nat) (hx : V.heap[g]? = some (.cells #[.int .i64 x.1, .int .i64 k, .int .i64 n, .string s, .slice A' mk ck] 46 (0, 0))) (hn : NdV V V.heap.size x.2 (ndv k n s (.slice A' mk ck))) =>
    (show UnV V { u with on := [x] } (.agg #[.slice Ad md cd, .slice Av mv cv, .slice (some ⟨g, 0, none⟩) 1 1]) from
      ⟨Ad, cd, Av, cv, some ⟨g, 0, none⟩, 1, by show _ = Value.agg #[.slice Ad u.dur.length cd, .slice Av u.vol.length cv, _]; rw [hd, hvl]; rfl,
        ⟨by show u.dur.length ≤ cd; omega, l7, (((s1.below b2).below (hV.mono (by omega))).2.2).imp id fun ⟨q, o, e, h1, h2⟩ => ⟨q, o, e, Nat.lt_of_lt_of_le h1 (Nat.le_trans (by omega) hV.size), h2⟩⟩,
        ⟨by show u.vol.length ≤ cv; omega, l9, (((s2.below b2).below (hV.mono (by omega))).2.2).imp id fun ⟨q, o, e, h1, h2⟩ => ⟨q, o, e, Nat.lt_of_lt_of_le h1 (Nat.le_trans (by omega) hV.size), h2⟩⟩,
        hs_one hx (heap_lt hx) hn, Nat.le_refl _, by simp [maxLen], by show u.dur.length ≤ 20; omega, by show u.vol.length ≤ 20; omega, by show 1 ≤ 4; decide⟩))
  have H3 := Lib.hid (s3.below b2)
  have HM := Lib.hid hm
  have HBW := Lib.hid (hb1.trans (b2.mono hs1))
  have H2 := Lib.hid h2
  have E2 := Lib.hid e2
  obtain ⟨P, hP⟩ : ∃ P : (Int × TY.Nd) → Bool, P = fun h => decide (TY.chk { u with on := [h] } = 0) := ⟨_, rfl⟩
  have HCO := Lib.hid (show decide (TY.chk u = 0) = u.on.all P by rw [hP]; exact TY.chk_one u)
  have HP := Lib.hid (fun x => (congrFun hP x : P x = decide (TY.chk { u with on := [x] } = 0)))
  have lt2 : w1.heap.size < W2.heap.size := by omega
  clear hv hb1 hs1 h2 z2 b2 e2 s1 s2 s3 hd hvl hm hP
  obtain ⟨u0, u1, u2⟩ : W2.cell? ⟨w1.heap.size, 0, none⟩ = some (.slice Ad md cd) ∧ W2.cell? ⟨w1.heap.size, 1, none⟩ = some (.slice Av mv cv) ∧ W2.cell? ⟨w1.heap.size, 2, none⟩ = some (.slice A m c) := ⟨cell_of_row W2 _ 0 _ _ (0, 0) E2.out, cell_of_row W2 _ 1 _ _ (0, 0) E2.out, cell_of_row W2 _ 2 _ _ (0, 0) E2.out⟩
  go_wp2_with fail
  rw [H2.out]
  clear H2
  go_loopw [4, 5] (fun g i V => ∃ j : Nat, j ≤ m ∧ i = .int .i64 (j : Int) ∧ g = .bool ((u.on.take j).all P) ∧ Hid (Below W2.heap.size W2 V)) (fun _ i _ => m - (intOf i).toNat)
  case atStart => exact ⟨0, by omega, rfl, rfl, Below.refl _ _⟩
  case round =>
    obtain ⟨j, hj, rfl, rfl, hBl⟩ := hrel
    have v0 := (hBl.out.cell (p := ⟨w1.heap.size, 0, none⟩) lt2).trans u0
    have v1 := (hBl.out.cell (p := ⟨w1.heap.size, 1, none⟩) lt2).trans u1
    have v2 := (hBl.out.cell (p := ⟨w1.heap.size, 2, none⟩) lt2).trans u2
    by_cases hjm : j < m
    · obtain ⟨x, hx⟩ : ∃ x, u.on[j]? = some x := ⟨u.on[j]'(by rw [HM.out]; exact hjm), List.getElem?_eq_getElem (by rw [HM.out]; exact hjm)⟩
      have HSN := Lib.hid (all_take_snoc' (P := P) hx)
      obtain ⟨bh, off, k, n, s, A', mk, ck, rfl, hlt, c0, c1, c2, c3, c4, hn⟩ := H3.out j x hx
      have hb2 : bh < W2.heap.size := by omega
      have d0 := (hBl.out.cell (p := ⟨bh, off + j * 5, none⟩) hb2).trans c0
      have d1 := (hBl.out.cell (p := ⟨bh, off + j * 5 + 1, none⟩) hb2).trans c1
      have d2 := (hBl.out.cell (p := ⟨bh, off + j * 5 + 1 + 1, none⟩) hb2).trans c2
      have d3 := (hBl.out.cell (p := ⟨bh, off + j * 5 + 1 + 2, none⟩) hb2).trans c3
      have d4 := (hBl.out.cell (p := ⟨bh, off + j * 5 + 1 + 3, none⟩) hb2).trans c4
      obtain ⟨g, hg⟩ : ∃ g, (u.on.take j).all P = g := ⟨_, rfl⟩
      rw [hg] at HSN ⊢
      have HN := Lib.hid hn
      clear c0 c1 c2 c3 c4 hx hg hn
      have ne0 := World.new_ne wr ⟨w1.heap.size, 0, none⟩ v0
      go_wp2_with fail
      go_region_held3 (fun V => V.cell? ⟨w1.heap.size, 0, none⟩ = some (.slice Ad md cd) ∧ V.cell? ⟨w1.heap.size, 1, none⟩ = some (.slice Av mv cv) ∧ V.cell? ⟨w1.heap.size, 2, none⟩ = some (.slice (some ⟨bh, off, none⟩) m c) ∧ V.cell? ⟨bh, off + j * 5, none⟩ = some (.int .i64 x.1) ∧ V.cell? ⟨bh, off + j * 5 + 1, none⟩ = some (.int .i64 k) ∧ V.cell? ⟨bh, off + j * 5 + 1 + 1, none⟩ = some (.int .i64 n) ∧ V.cell? ⟨bh, off + j * 5 + 1 + 2, none⟩ = some (.string s) ∧ V.cell? ⟨bh, off + j * 5 + 1 + 3, none⟩ = some (.slice A' mk ck))
        (go_keep)
        (first | fail)
      all_goals
        first
        | (obtain ⟨W5, h5⟩ : ∃ U, ((wr.alloc (.cells #[.slice Ad md cd, .slice Av mv cv, .slice (some ⟨wr.heap.size + 1, 0, none⟩) 1 1] 35)).alloc (.cells #[.int .i64 x.1, .int .i64 k, .int .i64 n, .string s, .slice A' mk ck] 46)).drew = U := ⟨_, rfl⟩
           rw [h5]
           have hl : (lay wr [.cells #[.slice Ad md cd, .slice Av mv cv, .slice (some ⟨wr.heap.size + 1, 0, none⟩) 1 1] 35, .cells #[.int .i64 x.1, .int .i64 k, .int .i64 n, .string s, .slice A' mk ck] 46]).drew = W5 := h5
           have b5 : Below wr.heap.size wr W5 := hl ▸ (lay_below [.cells #[.slice Ad md cd, .slice Av mv cv, .slice (some ⟨wr.heap.size + 1, 0, none⟩) 1 1] 35, .cells #[.int .i64 x.1, .int .i64 k, .int .i64 n, .string s, .slice A' mk ck] 46] wr).drew
           have e5a : W5.heap[wr.heap.size]? = some (.cells #[.slice Ad md cd, .slice Av mv cv, .slice (some ⟨wr.heap.size + 1, 0, none⟩) 1 1]  35 (0, 0)) := hl ▸ lay_at [.cells #[.slice Ad md cd, .slice Av mv cv, .slice (some ⟨wr.heap.size + 1, 0, none⟩) 1 1] 35, .cells #[.int .i64 x.1, .int .i64 k, .int .i64 n, .string s, .slice A' mk ck] 46] wr 0 rfl
           have e5b : W5.heap[wr.heap.size + 1]? = some (.cells #[.int .i64 x.1, .int .i64 k, .int .i64 n, .string s, .slice A' mk ck] 46 (0, 0)) := hl ▸ lay_at [.cells #[.slice Ad md cd, .slice Av mv cv, .slice (some ⟨wr.heap.size + 1, 0, none⟩) 1 1] 35, .cells #[.int .i64 x.1, .int .i64 k, .int .i64 n, .string s, .slice A' mk ck] 46] wr 1 rfl
           have hs5 : W5.heap.size = wr.heap.size + 2 := by rw [← hl]; exact lay_size _ _
           have hB5 := hBl.out.trans (b5.mono hBl.out.size)
           have hun := ONE.out W5 hB5 (wr.heap.size + 1) x k n s A' mk ck e5b (HN.out.under (hB5.mono (Nat.le_of_lt lt2)) (by have := hB5.size; omega))
           have hck := hun.check (Below.refl _ _)
           obtain ⟨g0, g1, g2⟩ : W5.cell? ⟨wr.heap.size, 0, none⟩ = some (.slice Ad md cd) ∧ W5.cell? ⟨wr.heap.size, 1, none⟩ = some (.slice Av mv cv) ∧ W5.cell? ⟨wr.heap.size, 2, none⟩ = some (.slice (some ⟨wr.heap.size + 1, 0, none⟩) 1 1) := ⟨cell_of_row W5 _ 0 _ _ (0, 0) e5a, cell_of_row W5 _ 1 _ _ (0, 0) e5a, cell_of_row W5 _ 2 _ _ (0, 0) e5a⟩
           have HCK := Lib.hid hck
           have HB5 := Lib.hid hB5
           clear h5 hl b5 e5a e5b hB5 hun hck ONE)
        | (obtain ⟨W5, h5⟩ : ∃ U, ((wr.alloc (.cells #[.int .i64 x.1, .int .i64 k, .int .i64 n, .string s, .slice A' mk ck] 46)).alloc (.cells #[.slice Ad md cd, .slice Av mv cv, .slice (some ⟨wr.heap.size, 0, none⟩) 1 1] 35)).drew = U := ⟨_, rfl⟩
           rw [h5]
           have hl : (lay wr [.cells #[.int .i64 x.1, .int .i64 k, .int .i64 n, .string s, .slice A' mk ck] 46, .cells #[.slice Ad md cd, .slice Av mv cv, .slice (some ⟨wr.heap.size, 0, none⟩) 1 1] 35]).drew = W5 := h5
           have b5 : Below wr.heap.size wr W5 := hl ▸ (lay_below [.cells #[.int .i64 x.1, .int .i64 k, .int .i64 n, .string s, .slice A' mk ck] 46, .cells #[.slice Ad md cd, .slice Av mv cv, .slice (some ⟨wr.heap.size, 0, none⟩) 1 1] 35] wr).drew
           have e5a : W5.heap[wr.heap.size]? = some (.cells #[.int .i64 x.1, .int .i64 k, .int .i64 n, .string s, .slice A' mk ck]  46 (0, 0)) := hl ▸ lay_at [.cells #[.int .i64 x.1, .int .i64 k, .int .i64 n, .string s, .slice A' mk ck] 46, .cells #[.slice Ad md cd, .slice Av mv cv, .slice (some ⟨wr.heap.size, 0, none⟩) 1 1] 35] wr 0 rfl
           have e5b : W5.heap[wr.heap.size + 1]? = some (.cells #[.slice Ad md cd, .slice Av mv cv, .slice (some ⟨wr.heap.size, 0, none⟩) 1 1] 35 (0, 0)) := hl ▸ lay_at [.cells #[.int .i64 x.1, .int .i64 k, .int .i64 n, .string s, .slice A' mk ck] 46, .cells #[.slice Ad md cd, .slice Av mv cv, .slice (some ⟨wr.heap.size, 0, none⟩) 1 1] 35] wr 1 rfl
           have hs5 : W5.heap.size = wr.heap.size + 2 := by rw [← hl]; exact lay_size _ _
           have hB5 := hBl.out.trans (b5.mono hBl.out.size)
           have hun := ONE.out W5 hB5 (wr.heap.size) x k n s A' mk ck e5a (HN.out.under (hB5.mono (Nat.le_of_lt lt2)) (by have := hB5.size; omega))
           have hck := hun.check (Below.refl _ _)
           obtain ⟨g0, g1, g2⟩ : W5.cell? ⟨wr.heap.size + 1, 0, none⟩ = some (.slice Ad md cd) ∧ W5.cell? ⟨wr.heap.size + 1, 1, none⟩ = some (.slice Av mv cv) ∧ W5.cell? ⟨wr.heap.size + 1, 2, none⟩ = some (.slice (some ⟨wr.heap.size, 0, none⟩) 1 1) := ⟨cell_of_row W5 _ 0 _ _ (0, 0) e5b, cell_of_row W5 _ 1 _ _ (0, 0) e5b, cell_of_row W5 _ 2 _ _ (0, 0) e5b⟩
           have HCK := Lib.hid hck
           have HB5 := Lib.hid hB5
           clear h5 hl b5 e5a e5b hB5 hun hck ONE)
        have hPx := HP.out x
        obtain ⟨y, hy⟩ : ∃ y, TY.chk { u with on := [x] } = y := ⟨_, rfl⟩
        rw [hy] at HCK hPx
        have HPX := Lib.hid hPx
        clear hy hPx
        cases g
        · go_wp2_with fail
          go_roundw
          case rel => exact ⟨j + 1, by omega, by go_num, by rw [HSN.out]; rfl, HB5.out⟩
          case measure => simp [intOf]; omega
        · go_wp2_with (first
            | (go_at_call 16; refine HCK.out.mono ?_; clear HCK; rintro e w6 ⟨rfl, hb6⟩; have HB6 := Lib.hid (HB5.out.trans (hb6.mono HB5.out.size)); clear hb6))
          go_roundw
          case rel => exact ⟨j + 1, by omega, by go_num, by rw [HSN.out, HPX.out]; rfl, HB6.out⟩
          case measure => simp [intOf]; omega
    · obtain rfl : j = m := by omega
      have hall : (u.on.take j).all P = u.on.all P := by rw [List.take_of_length_le (by rw [HM.out]; exact Nat.le_refl _)]
      rw [hall]
      have hco := HCO.out
      have hck := CK.out wr hBl.out
      obtain ⟨y, hy⟩ : ∃ y, TY.chk u = y := ⟨_, rfl⟩
      rw [hy] at hco hck
      obtain ⟨g, hg⟩ : ∃ g, u.on.all P = g := ⟨_, rfl⟩
      rw [hg] at hco ⊢
      have e1 : (y == 0) = g := hco
      have HCK := Lib.hid hck
      clear hall hco hck hy hg ONE CK
      go_wp2_with (first
        | (go_at_call 16; refine HCK.out.mono ?_; clear HCK; rintro e w6 ⟨rfl, hb6⟩; have HB6 := Lib.hid (hBl.out.trans (hb6.mono hBl.out.size)); clear hb6)
        | (go_at_call 14; refine (LV.out _).mono ?_; clear LV; rintro e w7 ⟨rfl, hb7⟩; have HB7 := Lib.hid (HB6.out.trans (hb7.mono HB6.out.size)); clear hb7))
      go_ret
      exact ⟨rfl, HBW.out.trans (HB7.out.mono HBW.out.size)⟩
end Go.Proofs.Ytofeidacffabdaa.LawTypesModular
