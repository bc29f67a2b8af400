/-
  The walk of the law WireWrites: the collected bytes agree with the reference after every value. No condition beyond the arguments' readings.
-/
import Derived.Test.YtpnahndgfnkinaaLawWireRound
import Derived.Test.YtpnahndgfnkinaaWRefVs
namespace Go.Proofs.Ytpnahndgfnkinaa.LawWireWrites
open Go Go.RowKit LawWirePrefix LawWireRound

theorem cells20_new (W : World) (l : List Value) (C : Array Value) (t : TypeId) (g : Nat) (hg : g = W.heap.size) (hC : C = l.toArray) : ∀ j u, l[j]? = some u → (W.alloc (.cells C t)).cell? ((⟨g, 0, none⟩ : Addr).add j) = some u := by
  intro j u hu
  subst hg hC
  rw [Addr.add_lit, Nat.zero_add, cell_of_row _ _ j _ _ _ (World.alloc_heap_new W _), ← hu, List.getElem?_toArray]
theorem Vls.cutTo {B n c m : Nat} {w : World} {A : Option Addr} {xs : List V} (h : Vls B w A n c xs) (hm : m ≤ n) : Vls B w A m c (xs.take m) := by
  obtain ⟨h1, h2, h3, h4⟩ := h
  refine ⟨by rw [List.length_take]; omega, by omega, h3, fun hn => ?_⟩
  obtain ⟨b, off, C, e, hb, hC, hi⟩ := h4 (by omega)
  exact ⟨b, off, C, e, hb, hC, fun i x hx => hi i x (by
    rw [List.getElem?_take] at hx
    split at hx
    · exact hx
    · cases hx)⟩
theorem wf2 {b : List Int} (h : ∀ c ∈ b, B8 c) (hl : b.length ≤ 1000) : V.wf { kind := 2, u := 0, n := 0, b := b, l := [] } :=
  ⟨⟨by show (0 : Int) ≤ 0; omega, by show (0 : Int) < _; omega⟩, ⟨by show (-9223372036854775808 : Int) ≤ 0; omega, by show (0 : Int) < _; omega⟩, h, by simp, hl, by simp, .inr (.inr (.inl rfl))⟩
theorem wf3 {l : List Int} (h : ∀ c ∈ l, I64 c) (hl : l.length ≤ 1000) : V.wf { kind := 3, u := 0, n := 0, b := [], l := l } :=
  ⟨⟨by show (0 : Int) ≤ 0; omega, by show (0 : Int) < _; omega⟩, ⟨by show (-9223372036854775808 : Int) ≤ 0; omega, by show (0 : Int) < _; omega⟩, by simp, h, by simp, hl, .inr (.inr (.inr rfl))⟩
theorem wfs_snoc {xs : List V} (h : ∀ x ∈ xs, V.wf x) {x : V} (hx : V.wf x) : ∀ y ∈ xs ++ [x], V.wf y := by
  intro y hy
  simp only [List.mem_append, List.mem_singleton] at hy
  rcases hy with hy | rfl
  · exact h y hy
  · exact hx
/-- Four values more. -/
theorem four_step {base : Nat} {w u1 u2 : World} {xs : List V} {cs : List Value} {A' : Option Addr} {c' k : Nat} {x0 x1 x2 x3 : V} {a0 a1 a2 a3 a4 b0 b1 b2 b3 b4 c0 c1 c2 c3 c4 d0 d1 d2 d3 d4 : Value} {C : Array Value}
    (hB : Below base w u1) (hbase : base ≤ u1.heap.size) (hrow : u1.ownsRow base 28 5 (.slice A' k c') k cs) (hV : VRows u1.heap.size u1 xs cs)
    (h0 : VAt u1.heap.size u1 x0 (.agg #[a0, a1, a2, a3, a4])) (h1 : VAt u1.heap.size u1 x1 (.agg #[b0, b1, b2, b3, b4])) (h2 : VAt u1.heap.size u1 x2 (.agg #[c0, c1, c2, c3, c4])) (h3 : VAt u1.heap.size u1 x3 (.agg #[d0, d1, d2, d3, d4]))
    (hg : (u1.alloc (.cells C 28)).grownBy u2 (Value.slice A' k c').ownBlock) :
    VRows u2.heap.size u2 ((((xs ++ [x0]) ++ [x1]) ++ [x2]) ++ [x3]) (cs ++ [a0, a1, a2, a3, a4, b0, b1, b2, b3, b4, c0, c1, c2, c3, c4, d0, d1, d2, d3, d4]) ∧ Below base w u2 := by
  have bT := Below.alloc (Below.refl u1.heap.size u1) (Nat.le_refl _) (.cells C 28)
  have hrow2 := row_below hrow bT
  have hr : ∀ b, (Value.slice A' k c').ownBlock = some b → ∃ C', (u1.alloc (.cells C 28)).heap[b]? = some (.cells C' 28 (0, 0)) := fun b e => by
    rcases hrow2.2 with ⟨e2, _⟩ | ⟨g', cap, cur, e2, _, hh, _⟩
    · rw [e2] at e; cases e
    · rw [e2] at e
      have e3 : some g' = some b := e
      injection e3 with e3
      subst e3
      exact ⟨cur, hh⟩
  have sz := hg.size
  have sT := bT.size
  have up : ∀ {z : V} {v : Value}, VAt u1.heap.size u1 z v → VAt u2.heap.size u2 z v := fun hz => ((hz.below bT).grown hg (fun b e => .inr (hr b e))).more (by omega)
  have e : cs ++ [a0, a1, a2, a3, a4, b0, b1, b2, b3, b4, c0, c1, c2, c3, c4, d0, d1, d2, d3, d4] = (((cs ++ [a0, a1, a2, a3, a4]) ++ [b0, b1, b2, b3, b4]) ++ [c0, c1, c2, c3, c4]) ++ [d0, d1, d2, d3, d4] := by simp
  rw [e]
  exact ⟨VRows.snoc (VRows.snoc (VRows.snoc (VRows.snoc (hV.imp fun z v hz => up hz) (up h0)) (up h1)) (up h2)) (up h3), (hB.trans (bT.mono hbase)).grown hg (by omega) fun b e => (hrow2.lt b e).1⟩

set_option maxRecDepth 100000 in
set_option maxHeartbeats 4000000 in
theorem walk (a0 : Option Addr) (len0 cap0 : Nat) (z0 : List Int) (a1 : Int) (a2 : Int) (a3 : Option Addr) (len3 cap3 : Nat) (z3 : List Int) (a4 : Option Addr) (len4 cap4 : Nat) (z4 : List Int) (w : World) (w0 : Row .i64 w a0 len0 cap0 z0) (w1 : (Lit.int .u64 a1).wf = true) (w2 : (Lit.int .i64 a2).wf = true) (w3 : Row .u8 w a3 len3 cap3 z3) (w4 : Row .i64 w a4 len4 cap4 z4) :
    Calls Try.prog 3 #[.slice a0 len0 cap0, .int .u64 a1, .int .i64 a2, .slice a3 len3 cap3, .slice a4 len4 cap4] w fun e w' => e = .returned (.bool true) ∧ Below w.heap.size w w' := by
  have hb1 := bounds_u64 w1
  have hb2 := bounds_i64 w2
  obtain ⟨hI0, hlc0, hcm0, hwf0⟩ := w0.ints
  unfold maxLen at hcm0
  have HV := Lib.hid (vals_any a0 len0 cap0 _ w hI0 (i64_of hwf0) (by omega))
  have HF := Lib.hid (fun u (hu : Below w.heap.size w u) => few_any a3 len3 cap3 _ 200 (by decide) (by decide) u (w3.slc.below hu))
  have HN := Lib.hid (fun u (hu : Below w.heap.size w u) => ints_any a4 len4 cap4 _ 20 (by decide) (by decide) u (w4.slc.below hu))
  have hp8 : ∀ x ∈ (z3.take len3).take 200, B8 x := fun x hx => b8_of w3.ints.2.2.2 x (List.mem_of_mem_take hx)
  have hni : ∀ x ∈ (z4.take len4).take 20, I64 x := fun x hx => i64_of w4.ints.2.2.2 x (List.mem_of_mem_take hx)
  have hpl : ((z3.take len3).take 200).length ≤ 200 := List.length_take_le _ _
  have hnl : ((z4.take len4).take 20).length ≤ 20 := List.length_take_le _ _
  have e200 : (200 : Int).toNat = 200 := rfl
  have e20 : (20 : Int).toNat = 20 := rfl
  rw [e200] at HF
  rw [e20] at HN
  obtain ⟨P, hP⟩ : ∃ P, (z3.take len3).take 200 = P := ⟨_, rfl⟩
  obtain ⟨L, hL⟩ : ∃ L, (z4.take len4).take 20 = L := ⟨_, rfl⟩
  rw [hP] at HF hp8 hpl
  rw [hL] at HN hni hnl
  have hw2 := Lib.hid (wf2 hp8 (by omega))
  have hw3 := Lib.hid (wf3 hni (by omega))
  have hw0 := Lib.hid (good0 (u := a1) ⟨by omega, by omega⟩).1
  have hw1 := Lib.hid (good1 (n := a2) ⟨by omega, by omega⟩).1
  obtain ⟨i1, hi1, hy0, hy1, hy2⟩ := info_parts info_val
  clear w0 w1 w2 w3 w4 hI0 hlc0 hcm0 hwf0 hb1 hb2 hP hL e200 e20 hp8 hni
  go_enter Try.func3, Try.ntmps3
  go_wp2_with fail
  refine HV.out.mono ?_
  rintro e u1 ⟨A1, n1, c1, xs, csx, rfl, hn8, hxl, hxg, hOx, hRx, hbw1⟩
  have hs1 := hbw1.size
  have HXL := Lib.hid hxl
  have HXG := Lib.hid (fun x hx => (hxg x hx).1)
  have HRx := Lib.hid hRx
  clear hxl hxg hRx
  go_wp2_with fail
  refine (HF.out u1 hbw1).mono ?_
  rintro e u2 ⟨A2, n2, c2, rfl, hn2, hL2, -, hbw2⟩
  have hs2 := hbw2.size
  have B2 := hbw1.trans (hbw2.mono hs1)
  clear hn2
  go_wp2_with fail
  refine (HN.out u2 B2).mono ?_
  rintro e u3 ⟨A3, n3, c3, rfl, hn3, hL3, -, hbw3⟩
  have hs3 := hbw3.size
  have B3 := B2.trans (hbw3.mono B2.size)
  have hL2' := (hL2.below hbw3).more hs3
  have b13 := hbw2.trans (hbw3.mono hs2)
  have hOx3 := row_below hOx b13
  have hRx3 := Lib.hid (HRx.out.imp (w' := u3) (B' := u3.heap.size) fun z v hz => (hz.below b13).more (by omega))
  clear hn3 hL2 hOx HRx
  go_wp2_with (at_builtin; refine wpList_append_own _ rfl _ _ 25 rfl w.heap.size 28 i1 _ 5 72 Try.underlying25 hi1 hy0 hy1 hy2 rfl (by decide) _ _ _ rfl (row_below hOx3 ((Below.refl _ _).alloc (Nat.le_refl _) _)) ⟨_, 0, none⟩ 4 4 [_, _, _, _, _, _, _, _, _, _, _, _, _, _, _, _, _, _, _, _] rfl rfl (cells20_new _ _ _ _ _ rfl rfl) (by simp [Value.oneCell']) (by simp only [maxLen]; omega) (by omega) (by have := B3.size; simp; omega) ?_; intro v' u4 hown' hgrow _; obtain ⟨A4, c4, rfl, _, _⟩ := own_sliceN hown')
  obtain ⟨hRy, B4⟩ := four_step (x0 := { kind := 0, u := a1, n := 0, b := [], l := [] }) (x1 := { kind := 1, u := 0, n := a2, b := [], l := [] }) (x2 := { kind := 2, u := 0, n := 0, b := P, l := [] }) (x3 := { kind := 3, u := 0, n := 0, b := [], l := L }) B3 B3.size hOx3 hRx3.out
    ⟨_, _, _, _, _, _, rfl, Lst.none_ _ _ _ _, Lst.none_ _ _ _ _⟩ ⟨_, _, _, _, _, _, rfl, Lst.none_ _ _ _ _, Lst.none_ _ _ _ _⟩ ⟨_, _, _, _, _, _, rfl, hL2', Lst.none_ _ _ _ _⟩ ⟨_, _, _, _, _, _, rfl, Lst.none_ _ _ _ _, hL3⟩ hgrow
  have hyg := wfs_snoc (wfs_snoc (wfs_snoc (wfs_snoc HXG.out hw0.out) hw1.out) hw2.out) hw3.out
  have hyl := hRy.1
  obtain ⟨ys, hys⟩ : ∃ ys, (((xs ++ [{ kind := 0, u := a1, n := 0, b := [], l := [] }]) ++ [{ kind := 1, u := 0, n := a2, b := [], l := [] }]) ++ [{ kind := 2, u := 0, n := 0, b := P, l := [] }]) ++ [{ kind := 3, u := 0, n := 0, b := [], l := L }] = ys := ⟨_, rfl⟩
  rw [hys] at hRy hyg
  obtain ⟨N, hN⟩ : ∃ N, n1 + 4 = N := ⟨_, rfl⟩
  have hyl2 : ys.length = N := by rw [← hys]; simp only [List.length_append, List.length_cons, List.length_nil]; have := HXL.out; omega
  have hN12 : N ≤ 12 := by omega
  rw [hN] at hown' ⊢
  have hV4 : Vls u4.heap.size u4 A4 N c4 ys := Vls.of_own hown' hRy
  have hNc := hV4.2.1
  have hs4 := B4.size
  have HYL := Lib.hid hyl2
  have HYG := Lib.hid hyg
  have hA := Below.alloc (Below.refl u4.heap.size u4) (Nat.le_refl _) (.cells #[.slice none 0 0] 32)
  have hO := OutAt.new u4
  clear hgrow hown' hOx3 hRy hyl hyl2 hys hN hyg hRx3 hL2' hL3
  go_wp2_with fail
  go_loopw [13] (fun i wr => ∃ k : Nat, k ≤ N ∧ i = .int .i64 k ∧ OutAt u4.heap.size wr u4.heap.size (encVs (ys.take k)) ∧ Below u4.heap.size u4 wr) (fun i _ => N - (intOf i).toNat)
  case atStart => exact ⟨0, Nat.zero_le _, rfl, hO, hA⟩
  case round =>
    obtain ⟨k, hk, rfl, hOr, hBr⟩ := hrel
    clear hO hA
    have hVr := hV4.below hBr
    have hsr := hBr.size
    by_cases hlt : k < N
    · obtain ⟨b, off, x, c0, c1', c2', c3', c4', rfl, hbl, hxk, hvx, q0, q1, q2, q3, q4⟩ := hVr.at_ hlt
      have hxm : x ∈ ys := List.mem_of_getElem? hxk
      have hlen := encVs_len (ys.take k) (fun y hy => HYG.out y (List.mem_of_mem_take hy))
      have htl : (ys.take k).length ≤ k := List.length_take_le _ _
      have HC := Lib.hid (write_any u4.heap.size u4.heap.size x _ _ wr hOr hvx (HYG.out x hxm) (by omega))
      have HK := Lib.hid (encVs_snoc ys k x hxk)
      clear hVr hxk hxm hOr hvx
      go_wp2_with fail
      refine HC.out.mono ?_
      rintro e v1 ⟨rfl, h1, hbv⟩
      rw [← HK.out] at h1
      have hBv := hBr.trans hbv
      have hsv := hBv.size
      have hlen1 := encVs_len (ys.take (k + 1)) (fun y hy => HYG.out y (List.mem_of_mem_take hy))
      have htl1 : (ys.take (k + 1)).length ≤ k + 1 := List.length_take_le _ _
      obtain ⟨bs, hbs⟩ : ∃ bs, encVs (ys.take (k + 1)) = bs := ⟨_, rfl⟩
      rw [hbs] at h1 hlen1
      have HBS := Lib.hid hbs
      have HD := Lib.hid (fun W (hW : Below v1.heap.size v1 W) => out_done u4.heap.size u4.heap.size bs W (h1.below hW) (by omega))
      have HE0 : ∀ W, Below v1.heap.size v1 W → Calls Try.prog 17 #[.slice (some ⟨b, off, none⟩) (k + 1) c4] W (Mk 5 .u8 W bs) := fun W hW => by
        rw [← hbs]
        exact ref_encode _ (k + 1) c4 _ W ((Vls.cutTo (hV4.below (hBv.trans (hW.mono hsv))) (show k + 1 ≤ N by omega)).more (by have := hW.size; omega)) (fun y hy => HYG.out y (List.mem_of_mem_take hy)) (by omega)
      have HE := Lib.hid HE0
      have B0 : Below v1.heap.size v1 v1 := Below.refl _ _
      have hkc : k + 1 ≤ c4 := by omega
      have hbs6 : bs.length ≤ 1000000 := by omega
      have hOk := Lib.hid h1
      clear HE0 hbs h1 q0 q1 q2 q3 q4
      go_wp2_with fail
      have f1 : IntKind.i64.wrap ((k : Int) + 1) = (k : Int) + 1 := IntWalk.i64_in _ (by omega)
      have f4 : (k : Int) + 1 ≤ c4 := by omega
      have f2 : (0 : Int) ≤ (k : Int) + 1 := by omega
      have f3 : ((k : Int) + 1).toNat = k + 1 := by omega
      go_region_held3 (fun _ => True) (trivial)
        (first
          | (go_at_call 16; refine (HD.out _ B0.drew).mono ?_; rintro e vD ⟨AD, nD, cD, rfl, hnD, hLD, -, hbD⟩; have BD : Below v1.heap.size v1 vD := B0.drew.trans hbD; have HND := Lib.hid hnD; clear hnD)
          | (go_at_call 17; refine (HE.out _ BD).mono ?_; rintro e vE ⟨AE, nE, cE, rfl, hnE, hLE, -, hbE⟩; have HS := Lib.hid (sameBytes_eq AD AE nD nE cD cE bs vE ((hLD.below hbE).ints.more hbE.size) hLE.ints (by rw [← HND.out]; exact hbs6)); have BB : Below v1.heap.size v1 vE := BD.trans (hbE.mono BD.size); clear hnE)
          | (go_at_call 15; refine HS.out.mono ?_; rintro e vS ⟨rfl, hbS⟩; have BS : Below v1.heap.size v1 vS := BB.trans (hbS.mono BB.size)))
      have hO2 := hOk.out.below BS
      have hB2 := hBv.trans (BS.mono hsv)
      clear f1 f2 f3 f4 hOk
      go_wp2_with fail
      go_roundw
      case rel => exact ⟨k + 1, by omega, by go_num, by rw [HBS.out]; exact hO2, hB2⟩
      case measure => simp [intOf]; omega
    · have B5 := B4.trans (hBr.mono hs4)
      have hno : ¬ k < N := hlt
      clear hVr hOr hlt
      go_wp2_with fail
      refine (lives_any wr).mono ?_
      rintro e v1 ⟨rfl, hbv⟩
      go_wp2_with fail
      go_ret
      exact ⟨rfl, B5.trans (hbv.mono B5.size)⟩
end Go.Proofs.Ytpnahndgfnkinaa.LawWireWrites
