/-
  The parser's handler, given what block does. Conditions: the parser stands between handlers; the word "on" is the next token.
  The parser's program, given what the library's sort does with the handlers. Conditions: the parser stands at its beginning.
-/
import Derived.Test.YtlfpaemfhanpiaaGreatDoorK30
import Derived.Test.YtlfpaemfhanpiaaGreatDoorK29

namespace Go.Proofs.YtlfpaemfhanpiaaGreatDoor
open Go Go.RowKit Go.Proofs
attribute [local go_sem] Oper.semAt_some field0 field1 field2 field3

abbrev hnd2 (hs : List PS.Hd) : List (List Value × TY.Nd) := hs.map fun x => ([.int .i64 (x.1 : Int)], x.2)
theorem info_hand2 : (Tryz.prog.info? 48).map (fun i => (i.zero, i.size, i.bytes)) = some (some (.agg #[.int .i64 0, .int .i64 0, .int .i64 0, .string ⟨#[]⟩, .slice none 0 0]), 5, 64) := by kernel_rfl
/-- The parser with its handlers, in blocks from lo on. -/
structure Hp (W : World) (lo : Nat) (K : Pc) (ts : List LX.Tok) (A : Option Addr) (j c : Nat) (hs : List PS.Hd) (cs : List Value) : Prop where
  pat : PAt W K ts 0
  row : TR 48 1 lo W A j c (hnd2 hs) cs
  ov : K.ov = .slice A j c
  g : K.g < lo
  tb : K.tb < lo
  mb : K.mb < lo
  big : lo ≤ W.heap.size
section
variable {W W' : World} {lo : Nat} {K : Pc} {ts r : List LX.Tok} {A : Option Addr} {j c : Nat} {hs : List PS.Hd} {cs : List Value}
theorem Hp.step (h : Hp W lo K ts A j c hs cs) (hC : Chg (· = K.g) W W') (hP : PAt W' K r 0) : Hp W' lo K r A j c hs cs :=
  ⟨hP, h.row.keep (fun x hx hl => hC.block x hl (fun e => by have := h.g; omega)) hC.size, h.ov, h.g, h.tb, h.mb, Nat.le_trans h.big hC.size⟩
theorem Hp.below (h : Hp W lo K ts A j c hs cs) (hb : Below W.heap.size W W') : Hp W' lo K ts A j c hs cs := h.step (chgB hb) (h.pat.keep hb)
theorem Hp.drew (h : Hp W lo K ts A j c hs cs) : Hp W.drew lo K ts A j c hs cs := h.below ((Below.refl _ _).drew)
theorem Hp.cell4 (h : Hp W lo K ts A j c hs cs) : W.cell? ⟨K.g, 4, none⟩ = some (.slice A j c) := by
  obtain ⟨off, c0, h1, _⟩ := h.pat
  rw [← h.ov]
  exact cell_of_row W _ 4 _ _ (0, 0) h1
theorem Hp.len (h : Hp W lo K ts A j c hs cs) : hs.length = j := by
  have := h.row.1
  rwa [List.length_map] at this
theorem Hp.cap (h : Hp W lo K ts A j c hs cs) : j ≤ c ∧ c ≤ maxLen := by
  obtain ⟨_, h2, _⟩ := h.row
  rcases h2.2 with ⟨e1, h0⟩ | ⟨g, cap, cur, e1, _, _, hn, hm, _⟩
  · injection e1 with e1 e2 e3
    exact ⟨by omega, by rw [e3]; simp [maxLen]⟩
  · injection e1 with e1 e2 e3
    exact ⟨by omega, by omega⟩
theorem Hp.hcells (h : Hp W lo K ts A j c hs cs) (i : Nat) (x : PS.Hd) (hx : hs[i]? = some x) : ∃ (b off : Nat) (k n : Int) (s : ByteArray) (A' : Option Addr) (m d : Nat), A = some ⟨b, off, none⟩ ∧ lo ≤ b ∧ b < W.heap.size ∧
    W.cell? ⟨b, off + i * 5, none⟩ = some (.int .i64 (x.1 : Int)) ∧ W.cell? ⟨b, off + i * 5 + 1, none⟩ = some (.int .i64 k) ∧ W.cell? ⟨b, off + i * 5 + 1 + 1, none⟩ = some (.int .i64 n) ∧ W.cell? ⟨b, off + i * 5 + 1 + 2, none⟩ = some (.string s) ∧ W.cell? ⟨b, off + i * 5 + 1 + 3, none⟩ = some (.slice A' m d) := by
  obtain ⟨h1, h2, h3⟩ := h.row
  rw [List.length_map] at h1
  have hi := (List.getElem?_eq_some_iff.1 hx).1
  obtain ⟨b, C, rfl, hb1, hb2, hC, hcs⟩ := own_at h2 (by omega)
  obtain ⟨_, k, n, s, A', m, d, q, e, e0, e1, e2, e3⟩ := h3.2 i ([.int .i64 (x.1 : Int)], x.2) (by rw [List.getElem?_map, hx]; rfl)
  have ez := e 0 (by decide)
  refine ⟨b, 0, k, n, s, A', m, d, rfl, hb1, hb2, ?_, ?_, ?_, ?_, ?_⟩
  all_goals rw [cell_of_row W b _ C _ (0, 0) hC, Nat.zero_add]; apply hcs
  · exact ez
  · exact e0
  · exact e1
  · exact e2
  · exact e3
theorem Hp.kept4 {w5 W' wr : World} {X : Obj} {y : Value} (h : Hp w5 lo K ts A j c hs cs) (hg : (w5.alloc X).grownBy W' y.ownBlock) (hy : ∀ b, y.ownBlock = some b → lo ≤ b ∧ b < wr.heap.size) : W'.cell? ⟨K.g, 4, none⟩ = some (.slice A j c) ∧ W'.frozen? ⟨K.g, 4, none⟩ = false := by
  have hl := h.pat.lt
  have hgl := h.g
  have hk : W'.heap[K.g]? = w5.heap[K.g]? := (hg.block _ (by rw [World.size_alloc]; omega) (fun e => by have := (hy _ e.symm).1; omega)).trans (Below.heap_alloc w5 X _ hl)
  obtain ⟨off, c0, e1, _⟩ := h.pat
  have e2 := hk.trans e1
  exact ⟨by rw [← h.ov]; exact cell_of_row W' _ 4 _ _ (0, 0) e2, by simp [World.frozen?, e2]⟩
/-- Behind the append of a handler. -/
theorem Hp.more {wr w5 w6 U : World} {tb g mb : Nat} {dv vv mv : Value} {mo : Obj} {C : Array Value} {n g4 c4 : Nat} {b : TY.Nd} {k5 n5 : Int} {s5 : ByteArray} {A5 : Option Addr} {m5 c5 : Nat} (h : Hp wr lo (Pc.mk tb g dv vv (.slice A j c) mv mb mo) ts A j c hs cs)
    (hC : Chg (· = g) wr w5) (hP : PAt w5 (Pc.mk tb g dv vv (.slice A j c) mv mb mo) r 0) (hb : Nw wr.heap.size w5 b (ndv k5 n5 s5 (.slice A5 m5 c5))) (hg : (w5.alloc (.cells C 48)).grownBy w6 (Value.slice A j c).ownBlock) (hat : (Value.slice A j c).ownBlock = some g4 ∨ w5.heap.size ≤ g4)
    (hown : w6.ownsRow lo 48 5 (.slice (some ⟨g4, 0, none⟩) (j + 1) c4) (j + 1) (cs ++ [.int .i64 (n : Int), .int .i64 k5, .int .i64 n5, .string s5, .slice A5 m5 c5])) (hU : w6.setCell ⟨g, 4, none⟩ (.slice (some ⟨g4, 0, none⟩) (j + 1) c4) = U) :
    Hp U lo (Pc.mk tb g dv vv (.slice (some ⟨g4, 0, none⟩) (j + 1) c4) mv mb mo) r (some ⟨g4, 0, none⟩) (j + 1) c4 (hs ++ [(n, b)]) (cs ++ [.int .i64 (n : Int), .int .i64 k5, .int .i64 n5, .string s5, .slice A5 m5 c5]) ∧ Chg (Sg g lo) w5 U := by
  have hgl : g < lo := h.g
  have htl : tb < lo := h.tb
  have hml : mb < lo := h.mb
  have hbg := h.big
  have hlt := World.ownsRow.lt h.row.2.1
  have hsz := hg.size
  rw [World.size_alloc] at hsz
  have hs5 := hC.size
  have k6 : ∀ x, x < w5.heap.size → some x ≠ (Value.slice A j c).ownBlock → w6.heap[x]? = w5.heap[x]? := fun x hx hn => (hg.block x (by rw [World.size_alloc]; omega) hn).trans (Below.heap_alloc w5 _ x hx)
  have far : ∀ x, x < lo → some x ≠ (Value.slice A j c).ownBlock := fun x hx e => by have := (hlt x e.symm).1; omega
  have kU : ∀ x, x ≠ g → U.heap[x]? = w6.heap[x]? := fun x hx => by rw [← hU]; exact Below.heap_setCell _ _ _ _ hx
  have zU : U.heap.size = w6.heap.size := by rw [← hU]; simp [World.setCell]
  have hPl : g < w5.heap.size := hP.lt
  have hC6 : Chg (Sg g lo) w5 U := by
    rw [← hU]
    refine ((((Chg.refl (Sg g lo) w5).alloc _).grown hg fun k e _ => .inr (hlt k e).1)).setCell (p := ⟨g, 4, none⟩) (fun _ => .inl rfl) _
  have hrow := TR.step (U := U) h.row hC (fun x hx => by omega) hbg (pre := [.int .i64 (n : Int)]) rfl hb hg hat hown (fun x hx => kU x (by omega)) zU
  obtain ⟨off, c0, e1, e2, e3, e4, e5⟩ := hP
  refine ⟨⟨⟨off, c0, ?_, e2, e3, ⟨fun i t ht => (e4.cell i t ht).keep ((kU _ e5.1).trans (k6 _ e4.lt (far _ htl))), by have := e4.lt; rw [zU]; show tb < _; dsimp only at this; omega, ((kU _ e5.2).trans (k6 _ (heap_lt e4.map) (far _ hml))).trans e4.map, e4.big, e4.good⟩, e5⟩, ?_, rfl, hgl, htl, hml, by omega⟩, hC6⟩
  · have hr := row_set (i := 4) ((k6 g hPl (far _ hgl)).trans e1) (.slice (some ⟨g4, 0, none⟩) (j + 1) c4)
    rw [hU] at hr
    exact hr
  · have e : hnd2 (hs ++ [(n, b)]) = hnd2 hs ++ [([.int .i64 (n : Int)], b)] := by simp [hnd2]
    rw [e]
    exact hrow
end
/-- What a handler does that began at V. -/
def HRes (V : World) (lo g : Nat) (T : PS.Hd → List LX.Tok → World → Prop) (R : PS.PR PS.Hd) (e : Ending) (w' : World) : Prop :=
  Chg (Sg g lo) V w' ∧ match R with
  | .ok x r => e = .returned (.tuple #[]) ∧ T x r w'
  | .err p c => e = failV p c
  | .out => False
theorem hnum_at {V : World} {K : Pc} {ts : List LX.Tok} {lv : Nat} {R : PS.PR Nat} (h : PAt V K ts lv) (hR : PS.hnum ts = R) :
    Calls Tryz.prog 82 #[.pointer (some ⟨K.g, 0, none⟩)] V (URes V K lv (fun n : Nat => .int .i64 (n : Int)) R) := hR ▸ hnum_any V K ts lv h
def slH (i : Nat) : Nat := if i < 15 then 31 + i else 1
set_option maxRecDepth 100000 in
set_option maxHeartbeats 16000000 in
theorem handler_any (V : World) (lo tb g mb : Nat) (dv vv mv : Value) (mo : Obj) (A : Option Addr) (j c : Nat) (hs : List PS.Hd) (cs : List Value) (B : List LX.Tok → PS.PR TY.Nd) (HB : PFn 78 #[.pointer (some ⟨g, 0, none⟩)] (Pc.mk tb g dv vv (.slice A j c) mv mb mo) 0 B)
    (t : LX.Tok) (u : List LX.Tok) (ht : t.text = PS.wOn) (h : Hp V lo (Pc.mk tb g dv vv (.slice A j c) mv mb mo) (t :: u) A j c hs cs) (hj : j ≤ 4000) (hR : PS.hand B hs u ≠ .out) :
    Calls Tryz.prog 58 #[.pointer (some ⟨g, 0, none⟩)] V (HRes V lo g (fun x r W => ∃ A' c' cs', Hp W lo (Pc.mk tb g dv vv (.slice A' (j + 1) c') mv mb mo) r A' (j + 1) c' (hs ++ [x]) cs') (PS.hand B hs u)) := by
  obtain ⟨R, hRR⟩ : ∃ R, PS.hand B hs u = R := ⟨_, rfl⟩
  rw [hRR] at hR ⊢
  have hgu := h.pat.good.tail (by rw [ht]; decide)
  have H := Lib.hid h
  have HL := Lib.hid h.len
  have hlg : g < lo := h.g
  obtain ⟨hjc, hcm⟩ := h.cap
  have HM := Lib.hid (must_at h.pat (by decide) (show PS.must PS.wOn (t :: u) = .ok () u by simp only [PS.must, if_pos ht]))
  have HBL := Lib.hid HB
  clear h ht HB
  obtain ⟨t2, u2, rfl⟩ := hgu.ne
  obtain ⟨i2, hi0, hz0, hz1, hz2⟩ := info_parts info_hand2
  have HZ := Lib.hid (And.intro hi0 (And.intro hz0 (And.intro hz1 hz2)))
  simp only [PS.hand] at hRR
  clear hi0 hz0 hz1 hz2 hgu
  go_enter Tryz.func58, Tryz.ntmps58
  go_wp2_with (first
    | (go_at_call 76; refine HM.out.mono ?_; clear HM; rintro e w1 ⟨hC, rfl, hP⟩; have H1 := Lib.hid (H.out.step hC hP); have C1 := Lib.hid (show Chg (Sg g lo) V w1 from hC.mono (fun _ _ e => .inl e)); clear hC hP)
    | (go_at_call 60; refine (next_any _ (Pc.mk tb g dv vv (.slice A j c) mv mb mo) t2 u2 0 H1.out.pat).mono ?_; rintro e w2 ⟨rfl, hb2⟩; have B2 := Lib.hid (hb2.alloc hb2.size (.cells #[.int .i64 (t2.kind : Int), .int .i64 (t2.pos : Int), .string (PS.bs t2.text), .int .i64 (t2.num : Int)] 86)); have z2 := hb2.size; clear hb2))
  obtain ⟨W3, hW3⟩ : ∃ W, w2.alloc (.cells #[.int .i64 (t2.kind : Int), .int .i64 (t2.pos : Int), .string (PS.bs t2.text), .int .i64 (t2.num : Int)] 86) = W := ⟨_, rfl⟩
  have T3 := Lib.hid (show W3.heap[w2.heap.size]? = some (.cells #[.int .i64 (t2.kind : Int), .int .i64 (t2.pos : Int), .string (PS.bs t2.text), .int .i64 (t2.num : Int)] 86 (0, 0)) from hW3 ▸ World.alloc_heap_new w2 _)
  rw [hW3] at B2 ⊢
  have H3 := Lib.hid (H1.out.below B2.out)
  have C3 := Lib.hid (C1.out.trans (chgB (S := Sg g lo) B2.out) (fun _ _ h => h))
  have hlo1 : lo ≤ w1.heap.size := H1.out.big
  clear hW3 H1 C1 H B2
  cases hq : PS.hnum (t2 :: u2) with
  | out => rw [hq] at hRR; exact absurd hRR.symm hR
  | err q d =>
    rw [hq] at hRR
    have hRR : PS.PR.err q d = R := hRR
    obtain rfl := hRR
    have HM := Lib.hid (hnum_at H3.out.pat hq)
    clear hq hR
    go_wp2_with (first
      | (go_at_call 82; refine HM.out.mono ?_; clear HM; rintro e wz ⟨hC, rfl⟩))
    exact ⟨rfl, C3.out.trans hC (fun _ _ e => .inl e), rfl⟩
  | ok n r3 =>
    rw [hq] at hRR
    have HM := Lib.hid (hnum_at H3.out.pat hq)
    have HRR := Lib.hid (show (if n ∈ hs.map Prod.fst then PS.PR.err t2.pos 4 else (B r3).bind fun b r => .ok (n, b) r) = R from hRR)
    clear hq hRR
    go_wp2_with (first
      | (go_at_call 82; refine HM.out.mono ?_; clear HM; rintro e w4 ⟨hC, rfl, hP⟩; have H4 := Lib.hid (H3.out.step hC hP); have C4 := Lib.hid (show Chg (Sg g lo) V w4 from C3.out.trans hC (fun _ _ e => .inl e)); have T4 := Lib.hid ((hC.block _ (heap_lt T3.out) (show ¬ w2.heap.size = g by omega)).trans T3.out); have c4 : w4.cell? ⟨g, 4, none⟩ = some (.slice A j c) := H4.out.cell4; clear hC hP))
    have lt4 := heap_lt T4.out
    clear H3 C3 T3 c4 z2
    go_loopw [18] (fun i W => ∃ q : Nat, q ≤ j ∧ i = .int .i64 (q : Int) ∧ Hid (n ∉ (hs.take q).map Prod.fst) ∧ Hid (Below w4.heap.size w4 W)) (fun i _ => j - (intOf i).toNat)
    case atStart => exact ⟨0, by omega, rfl, (show n ∉ (hs.take 0).map Prod.fst by simp), Below.refl _ _⟩
    case round =>
    obtain ⟨q, hq, rfl, hno, hB⟩ := hrel
    have zr := hB.out.size
    by_cases hqj : q < j
    · obtain ⟨x, hx⟩ : ∃ x, hs[q]? = some x := ⟨hs[q]'(by rw [HL.out]; exact hqj), List.getElem?_eq_getElem (by rw [HL.out]; exact hqj)⟩
      obtain ⟨b, off, k, n', s, A', m, d, rfl, hlo, hlt, c0, c1, c2, c3, c4⟩ := H4.out.hcells q x hx
      have e0 := (hB.out.cell (p := ⟨b, off + q * 5, none⟩) hlt).trans c0
      have e1 := (hB.out.cell (p := ⟨b, off + q * 5 + 1, none⟩) hlt).trans c1
      have e2 := (hB.out.cell (p := ⟨b, off + q * 5 + 1 + 1, none⟩) hlt).trans c2
      have e3 := (hB.out.cell (p := ⟨b, off + q * 5 + 1 + 2, none⟩) hlt).trans c3
      have e4 := (hB.out.cell (p := ⟨b, off + q * 5 + 1 + 3, none⟩) hlt).trans c4
      clear c0 c1 c2 c3 c4
      have hltr : b < wr.heap.size := by omega
      have hltb : w2.heap.size < wr.heap.size := by omega
      obtain ⟨y0, y1, y2, y3, _⟩ := tok_cells ((hB.out.block _ lt4).trans T4.out)
      by_cases hxn : x.1 = n
      · have hb : ((x.1 : Int) == (n : Int)) = true := by rw [beq_iff_eq, hxn]
        have hE := HRR.out
        rw [if_pos (List.mem_map.2 ⟨x, List.mem_of_getElem? hx, hxn⟩)] at hE
        obtain rfl := hE
        have CC := Lib.hid (C4.out.trans (chgB (S := Sg g lo) hB.out) (fun _ _ h => h))
        clear hxn hx hR HBL HRR
        go_wp2_with fail
        exact ⟨rfl, CC.out.alloc _, rfl⟩
      · have hb : ((x.1 : Int) == (n : Int)) = false := by rw [beq_eq_false_iff_ne]; omega
        have hno2 : n ∉ (hs.take (q + 1)).map Prod.fst := by
          rw [List.take_add_one, hx, List.map_append, List.mem_append]
          rintro (h | h)
          · exact hno.out h
          · exact hxn (by have h2 := h; simp at h2; exact h2.symm)
        have HN2 := Lib.hid hno2
        have HB2 := Lib.hid (hB.out.alloc zr (.cells #[.int .i64 (x.1 : Int), .int .i64 k, .int .i64 n', .string s, .slice A' m d] 48))
        clear hxn hx hno hno2
        go_wp2_with fail
        go_roundw
        case rel => exact ⟨q + 1, by omega, by go_num, HN2.out, HB2.out⟩
        case measure => simp [intOf]; omega
    · obtain rfl : q = j := by omega
      have hE := HRR.out
      rw [if_neg (fun h => hno.out (by rw [List.take_of_length_le (by rw [HL.out]; exact Nat.le_refl _)]; exact h))] at hE
      have H5 := Lib.hid (H4.out.below hB.out)
      have C5 := Lib.hid (C4.out.trans (chgB (S := Sg g lo) hB.out) (fun _ _ h => h))
      clear hno hB HRR H4 C4 T4
      have y4 : wr.cell? ⟨g, 4, none⟩ = some (.slice A q c) := H5.out.cell4
      go_wp2_with fail
      cases hx : B r3 with
      | out => rw [hx] at hE; exact absurd hE.symm hR
      | err p d =>
        rw [hx] at hE
        have hE : PS.PR.err p d = R := hE
        obtain rfl := hE
        have HM := Lib.hid (HBL.out.at_ hx (by decide) err_ne)
        clear hx hR
        refine region_dies2 16 31 1 8 [8, 9, 10, 11, 12, 13, 14, 15] slH (fun i => match i with | 0 => .val (.pointer (some ⟨g, 0, none⟩)) | 1 => .val (.pointer (some ⟨g, 0, none⟩)) | 2 => .val (.pointer (some ⟨g, 0, none⟩)) | 3 => .val (.pointer (some ⟨g, 2, none⟩)) | 4 => .val (.pointer (some ⟨g, 4, none⟩)) | 5 => .val (.slice A q c) | 6 => .val (.int .i64 (n : Int)) | 7 => .val (.pointer (some ⟨g, 0, none⟩)) | _ => .val undef) (by kernel_rfl) rfl (by decide) (by decide) (by kernel_rfl) (by kernel_rfl) ?step ?dies
        case step =>
          intro listed a i hI hi hic hdep
          have hsl : ∀ i, i < 16 → slH i < 46 ∧ (31 ≤ slH i ∨ slH i = 1) := fun i hi => by unfold slH; split <;> omega
          have hij : ∀ i j : Nat, i < 16 → j < 16 → slH i = slH j → i = j := fun i j _ _ h => by unfold slH at h; split at h <;> split at h <;> omega
          have p0 : a.tmps[0]?.getD undef = .pointer (some ⟨g, 0, none⟩) := by rw [hI.low 0 (by decide) (by decide)]; rfl
          have p3 : a.tmps[3]?.getD undef = .int .i64 (n : Int) := by rw [hI.low 3 (by decide) (by decide)]; rfl
          have hcase : i = 0 ∨ i = 1 ∨ i = 2 ∨ i = 3 ∨ i = 4 ∨ i = 5 ∨ i = 6 ∨ i = 7 := by simp at hic; omega
          rcases hcase with rfl | rfl | rfl | rfl | rfl | rfl | rfl | rfl
          · exact st_same hsl hij hI (by decide) rfl rfl rfl (by simp [execOp, go_sem, Act.eval, p0]) rfl
          · exact st_same hsl hij hI (by decide) rfl rfl rfl (by simp [execOp, go_sem, Act.eval, p0]) rfl
          · have e8 : a.tmps[32]?.getD undef = .pointer (some ⟨g, 0, none⟩) := hI.ok 1 (by decide) (hdep _ rfl ⟨1, .data⟩ (by simp) rfl)
            exact st_same hsl hij hI (by decide) rfl rfl rfl (by simp [execOp, go_sem, Act.eval, e8]) rfl
          · have e8 : a.tmps[33]?.getD undef = .pointer (some ⟨g, 0, none⟩) := hI.ok 2 (by decide) (hdep _ rfl ⟨2, .data⟩ (by simp) rfl)
            exact st_same hsl hij hI (by decide) rfl rfl rfl (by simp [execOp, go_sem, Act.eval, e8]) rfl
          · have e8 : a.tmps[34]?.getD undef = .pointer (some ⟨g, 2, none⟩) := hI.ok 3 (by decide) (hdep _ rfl ⟨3, .data⟩ (by simp) rfl)
            exact st_same hsl hij hI (by decide) rfl rfl rfl (by simp [execOp, go_sem, Act.eval, e8]) rfl
          · have e8 : a.tmps[35]?.getD undef = .pointer (some ⟨g, 4, none⟩) := hI.ok 4 (by decide) (hdep _ rfl ⟨4, .data⟩ (by simp) rfl)
            exact st_same hsl hij hI (by decide) rfl rfl rfl (by simp [execOp, go_sem, Act.eval, e8, y4]) rfl
          · exact st_same hsl hij hI (by decide) rfl rfl rfl (by simp [execOp, go_sem, Act.eval, p3]) rfl
          · exact st_same hsl hij hI (by decide) rfl rfl rfl (by simp [execOp, go_sem, Act.eval, p0]) rfl
        case dies =>
          intro listed a hI hdep
          have e10 : a.tmps[38]?.getD undef = .pointer (some ⟨g, 0, none⟩) := hI.ok 7 (by decide) (hdep _ rfl ⟨7, .data⟩ (by simp) rfl)
          have hdf := hI.defers
          refine st_dies rfl rfl (f := 78) (args := #[.pointer (some ⟨g, 0, none⟩)]) (by simp [execOp, go_sem, Act.eval, e10]) ((HM.out _ H5.out.drew.pat).mono (fun e w' h => ⟨h.2, h.1⟩)) (fun w' hz => ?_)
          exact ⟨hdf, C5.out.drew.trans hz (fun _ _ e => .inl e), rfl⟩
      | ok bd r4 =>
        rw [hx] at hE
        have hE : PS.PR.ok (n, bd) r4 = R := hE
        obtain rfl := hE
        have HM := Lib.hid (HBL.out.at_ hx (by decide) ok_ne)
        clear hx hR HBL
        go_region_law
          (first
            | (go_simp; go_at_call 78; refine (HM.out _ H5.out.drew.pat).mono ?_; clear HM; rintro e w5 ⟨hC, v, rfl, hv, hP⟩
               obtain ⟨k5, n5, s5, A5, m5, c5, rfl⟩ := hv.shape
               have G5 := Lib.hid (show Chg (· = g) wr w5 from ((Chg.refl (· = g) wr).drew.trans hC (fun _ _ h => h)))
               have V5 := Lib.hid hv
               have P5 := Lib.hid hP
               have H6 := Lib.hid (H5.out.drew.step hC hP)
               have z5 : lo ≤ w5.heap.size := H6.out.big
               have e5 : w5.cell? ⟨g, 4, none⟩ = some (.slice A q c) := H6.out.cell4
               have d5 : (w5.alloc (.cells #[.int .i64 (n : Int), .int .i64 k5, .int .i64 n5, .string s5, .slice A5 m5 c5] 48)).cell? ⟨g, 4, none⟩ = some (.slice A q c) := (((Below.refl w5.heap.size w5).alloc (Nat.le_refl _) _).cell (p := ⟨g, 4, none⟩) H6.out.pat.lt).trans e5
               have HO5 := Lib.hid (TR.own H5.out.row G5.out (fun x hx => by omega) (.cells #[.int .i64 (n : Int), .int .i64 k5, .int .i64 n5, .string s5, .slice A5 m5 c5] 48))
               clear hC hP hv)
            | (refine step_append_lies _ rfl (.tmp 36) (.tmp 41) 24 rfl lo 48 i2 _ 5 64 Tryz.underlying24 HZ.out.1 HZ.out.2.1 HZ.out.2.2.1 HZ.out.2.2.2 rfl (by decide) (.slice A q c) q _ (by simp [Act.eval]) HO5.out ⟨w5.heap.size, 0, none⟩ 1 1 [.int .i64 (n : Int), .int .i64 k5, .int .i64 n5, .string s5, .slice A5 m5 c5] (by simp [Act.eval]) rfl (news_alloc _ _ _ _ rfl) (by simp [Value.oneCell']) (by decide) (by simp only [maxLen]; omega) (by omega) (by first | (simp; done) | (simp; omega)) _ rfl ?_; intro g4 c4 w6 hown4 hgrow4 hat4 _; obtain ⟨d6, f6⟩ := H6.out.kept4 (W' := w6) hgrow4 H5.out.row.2.1.lt; have hat5 : (Value.slice A q c).ownBlock = some g4 ∨ w5.heap.size ≤ g4 := hat4.imp id (fun h => by rw [h, World.size_alloc]; omega); dsimp only at d6 f6))
        all_goals
          obtain ⟨U, hU⟩ : ∃ U, w6.setCell ⟨g, 4, none⟩ (.slice (some ⟨g4, 0, none⟩) (q + 1) c4) = U := ⟨_, rfl⟩
          have hm := H5.out.more G5.out P5.out V5.out hgrow4 hat5 hown4 hU
          have HU := Lib.hid hU
          have TU := Lib.hid hm.1
          have CU := Lib.hid (C5.out.trans ((show Chg (Sg g lo) wr w5 from G5.out.mono (fun _ _ e => .inl e)).trans hm.2 (fun _ _ h => h)) (fun _ _ h => h))
          clear hm hU
          go_wp2_with fail
          rw [HU.out]
          go_end0
          exact ⟨CU.out, rfl, _, _, _, TU.out⟩
end Go.Proofs.YtlfpaemfhanpiaaGreatDoor

namespace Go.Proofs.YtlfpaemfhanpiaaGreatDoor
open Go Go.RowKit Go.Proofs
attribute [local go_sem] Oper.semAt_some field0 field1 field2 field3

theorem ret_Un {fn : Func} {p : Tmp} (hf : fn.results = #[.cell p 26]) {V : World} {b : Nat} {x0 x1 x2 : Value} (tmps : Array Value) (hp : tmps.getD p undef = .pointer (some ⟨b, 0, none⟩)) (h : V.heap[b]? = some (.cells #[x0, x1, x2] 26 (0, 0))) : (results fn tmps).run Tryz.prog V = .ok (.agg #[x0, x1, x2]) V := by
  have c0 : V.cell? ⟨b, 0, none⟩ = some x0 := cell_of_row V b 0 _ _ (0, 0) h
  have c1 : V.cell? ⟨b, 1, none⟩ = some x1 := cell_of_row V b 1 _ _ (0, 0) h
  have c2 : V.cell? ⟨b, 2, none⟩ = some x2 := cell_of_row V b 2 _ _ (0, 0) h
  have ia := Tryz.isAgg26
  have so := Tryz.sizeOf26
  simp only [results, hf]
  have hp' : tmps[p]?.getD undef = .pointer (some ⟨b, 0, none⟩) := by simpa using hp
  simp [go_sem, hp', c0, c1, c2, ia, so]
theorem hnum_short (ts : List LX.Tok) : PS.Short ts.length (PS.hnum ts) := by
  cases ts with
  | nil => trivial
  | cons t u =>
    simp only [PS.hnum]
    split
    · exact Nat.le_succ _
    · split
      · exact Nat.le_succ _
      · split
        · exact PS.Short.bind (n := u.length) (PS.numb_short _ _) fun n r h => Nat.le_succ_of_le h
        · split
          · exact PS.Short.bind (n := u.length) (PS.numb_short _ _) fun n r h => Nat.le_succ_of_le h
          · trivial
theorem hand_short {B : List LX.Tok → PS.PR TY.Nd} (HB : ∀ ts, PS.Short ts.length (B ts)) (on : List PS.Hd) (ts : List LX.Tok) : PS.Short ts.length (PS.hand B on ts) := by
  cases ts with
  | nil => trivial
  | cons t u =>
    simp only [PS.hand]
    refine PS.Short.bind (hnum_short _) fun n r h => ?_
    split
    · trivial
    · exact PS.Short.bind ((HB r).mono h) fun b r h => h
theorem hand_len {B : List LX.Tok → PS.PR TY.Nd} (HB : ∀ ts, PS.Short ts.length (B ts)) {on : List PS.Hd} {ts r : List LX.Tok} {x : PS.Hd} (h : PS.hand B on ts = .ok x r) : r.length ≤ ts.length := by
  have := hand_short HB on ts
  rw [h] at this
  exact this
theorem names_len {other own l : List PS.Bs} {ts r : List LX.Tok} (hg : PS.Good ts) (h : PS.names other own ts = .ok l r) : r.length ≤ ts.length := by
  have := PS.names_fine other ts own hg
  rw [h] at this
  have := this.2
  omega
theorem hand_new {B : List LX.Tok → PS.PR TY.Nd} {on : List PS.Hd} {ts r : List LX.Tok} {x : PS.Hd} (h : PS.hand B on ts = .ok x r) : x.1 ∉ on.map Prod.fst := by
  cases ts with
  | nil => cases h
  | cons t u =>
    simp only [PS.hand] at h
    cases hn : PS.hnum (t :: u) with
    | out => rw [hn] at h; cases h
    | err p c => rw [hn] at h; cases h
    | ok n r1 =>
      rw [hn, PS.PR.bind_ok] at h
      by_cases hm : n ∈ on.map Prod.fst
      · rw [if_pos hm] at h; cases h
      · rw [if_neg hm] at h
        cases hb : B r1 with
        | out => rw [hb] at h; cases h
        | err p c => rw [hb] at h; cases h
        | ok b r2 =>
          rw [hb, PS.PR.bind_ok] at h
          injection h with h _
          rw [← h]
          exact hm
theorem row_lower {w : World} {base base' size n : Nat} {t : TypeId} {v : Value} {xs : List Value} (h : w.ownsRow base t size v n xs) (hl : base' ≤ base) : w.ownsRow base' t size v n xs := by
  obtain ⟨h1, h2⟩ := h
  refine ⟨h1, ?_⟩
  rcases h2 with h2 | ⟨k, cap, cur, hv, hk, r⟩
  · exact .inl h2
  · exact .inr ⟨k, cap, cur, hv, by omega, r⟩
theorem TR.lower {e : TypeId} {p B B' j c : Nat} {V : World} {A : Option Addr} {xs : List (List Value × TY.Nd)} {cs : List Value} (h : TR e p B V A j c xs cs) (hl : B' ≤ B) : TR e p B' V A j c xs cs :=
  ⟨h.1, row_lower h.2.1 hl, h.2.2.imp fun t v hv U hU hi hhi => hv U (fun x h1 h2 h3 => hU x (by omega) h2 h3) hi hhi⟩
theorem Dl.lower {W : World} {lo lo' : Nat} {x : Value} {l : List PS.Bs} (h : Dl W lo x l) (hl : lo' ≤ lo) : Dl W lo' x l := row_lower h hl
/-- What the library's sort of the handlers must do: its premise. -/
def SortsH (tb g mb : Nat) (mv : Value) (mo : Obj) : Prop := ∀ (W : World) (lo : Nat) (x y : Value) (A : Option Addr) (j c : Nat) (hs : List PS.Hd) (cs : List Value) (r : List LX.Tok), Hp W lo (Pc.mk tb g x y (.slice A j c) mv mb mo) r A j c hs cs → (hs.map Prod.fst).Nodup → hs.length ≤ 4000 →
  Calls Tryz.prog 61 #[.slice A j c, .func (.func 62) #[] #[]] W fun e w' => e = .returned (.tuple #[]) ∧ Chg (lo ≤ ·) W w' ∧ ∃ cs', Hp w' lo (Pc.mk tb g x y (.slice A j c) mv mb mo) r A j c (PS.sortH hs) cs'
/-- What the parser gives: the unit u, in blocks from lo on. -/
def UV3 (lo : Nat) (W : World) (u : PS.Un) (v : Value) : Prop := ∃ (x y : Value) (A : Option Addr) (c : Nat) (cs : List Value), v = .agg #[x, y, .slice A u.on.length c] ∧ Dl W lo x u.dur ∧ Dl W lo y u.vol ∧ TR 48 1 lo W A u.on.length c (hnd2 u.on) cs ∧ u.dur.length + u.vol.length ≤ 16 ∧ u.on.length ≤ c ∧ c ≤ maxLen
def PgRes (V : World) (g : Nat) (R : PS.PR PS.Un) (e : Ending) (w' : World) : Prop :=
  Chg (fun b => b = g) V w' ∧ match R with
  | .ok u _ => ∃ v, e = .returned v ∧ UV3 V.heap.size w' u v
  | .err p c => e = failV p c
  | .out => False
theorem PAt.big {W : World} {K : Pc} {ts : List LX.Tok} {lv : Nat} (h : PAt W K ts lv) : ts.length ≤ 4000 := by
  obtain ⟨_, _, _, _, _, h4, _⟩ := h
  exact h4.big
theorem pg_fin {V W1 Wb w7 U : World} {b tb g mb : Nat} {x y mv : Value} {mo : Obj} {ts r : List LX.Tok} {d v : List PS.Bs} {A : Option Addr} {j c : Nat} {on : List PS.Hd} {cs : List Value} {z0 z1 z2 ov : Value} (hvb : V.heap.size = b) (C1 : Chg (· = g) V W1) (T4 : Tp Wb (b + 1) (Pc.mk tb g x y ov mv mb mo) ts d v) (C4 : Chg (Sg g (b + 1)) W1 Wb)
    (D7 : Chg (Sg g Wb.heap.size) Wb w7) (H7 : Hp w7 Wb.heap.size (Pc.mk tb g x y (.slice A j c) mv mb mo) r A j c on cs) (R7 : w7.heap[V.heap.size]? = some (.cells #[z0, z1, z2] 26 (0, 0)))
    (hU : ((w7.setCell ⟨V.heap.size, 0, none⟩ x).setCell ⟨V.heap.size, 1, none⟩ y).setCell ⟨V.heap.size, 2, none⟩ (.slice A j c) = U) :
    U.heap[V.heap.size]? = some (.cells #[x, y, .slice A j c] 26 (0, 0)) ∧ Chg (fun z => z = g) V U ∧ UV3 V.heap.size U (PS.Un.mk d v on) (.agg #[x, y, .slice A j c]) := by
  have hbg : b + 1 ≤ Wb.heap.size := T4.big
  have hUk : ∀ z, z ≠ V.heap.size → U.heap[z]? = w7.heap[z]? := fun z hz => by
    rw [← hU, Below.heap_setCell _ _ _ _ hz, Below.heap_setCell _ _ _ _ hz, Below.heap_setCell _ _ _ _ hz]
  have hUs : U.heap.size = w7.heap.size := by rw [← hU]; simp [World.setCell]
  have hgb : g < b + 1 := T4.g
  have hlen : on.length = j := H7.len
  have hD7 := D7.size
  have hC1 := C1.size
  have hC4 := C4.size
  refine ⟨by rw [← hU]; exact row_set (row_set (row_set R7 x) y) (.slice A j c), ⟨?_, ?_, ?_, by omega, fun z hz hn => ?_⟩, x, y, A, c, cs, ?_, ?_, ?_, ?_, T4.few, ?_, ?_⟩
  · rw [← hU]; exact D7.os.trans (C4.os.trans C1.os)
  · rw [← hU]; exact D7.tape.trans (C4.tape.trans C1.tape)
  · rw [← hU]; exact D7.output.trans (C4.output.trans C1.output)
  · exact (hUk z (by omega)).trans ((D7.block z (by omega) (fun e => e.elim hn (by omega))).trans ((C4.block z (by omega) (fun e => e.elim hn (by omega))).trans (C1.block z hz hn)))
  · show Value.agg #[x, y, .slice A j c] = .agg #[x, y, .slice A on.length c]
    rw [hlen]
  · refine Dl.lower (lo := b + 1) (Dl.keep T4.dur fun z hz => ?_) (by omega)
    have hl := T4.dur.lt z hz
    exact (hUk z (by omega)).trans (D7.block z hl.2 (fun e => e.elim (by omega) (by omega)))
  · refine Dl.lower (lo := b + 1) (Dl.keep T4.vol fun z hz => ?_) (by omega)
    have hl := T4.vol.lt z hz
    exact (hUk z (by omega)).trans (D7.block z hl.2 (fun e => e.elim (by omega) (by omega)))
  · show TR _ 1 _ U A on.length c (hnd2 on) cs
    rw [hlen]
    exact TR.lower (H7.row.keep (fun z hz hl => hUk z (by omega)) (by omega)) (by omega)
  · show on.length ≤ c
    rw [hlen]
    exact H7.cap.1
  · exact H7.cap.2
set_option maxRecDepth 100000 in
set_option maxHeartbeats 16000000 in
theorem program_any (V : World) (tb g mb : Nat) (mv : Value) (mo : Obj) (hmv : mv = .map (some mb)) (hmo : PM.MoOk mo) (HS : SortsH tb g mb mv mo) (F : Nat) (ts : List LX.Tok) (h : PAt V (Pc.mk tb g (.slice none 0 0) (.slice none 0 0) (.slice none 0 0) mv mb mo) ts 0) (hR : PS.prog F ts ≠ .out) :
    Calls Tryz.prog 34 #[.pointer (some ⟨g, 0, none⟩)] V (PgRes V g (PS.prog F ts)) := by
  obtain ⟨R, hRR⟩ : ∃ R, PS.prog F ts = R := ⟨_, rfl⟩
  rw [hRR] at hR ⊢
  obtain ⟨E, hE⟩ : ∃ E, PS.pe F (.ex 1) = E := ⟨_, rfl⟩
  obtain ⟨B, hB⟩ : ∃ B, PS.ps (PS.pe F (.ex 1)) F .bl 0 = B := ⟨_, rfl⟩
  have HB := Lib.hid (fun (x y z : Value) => (hB ▸ block_of (Pc.mk tb g x y z mv mb mo) hmv hmo F 0 : PFn 78 #[.pointer (some ⟨g, 0, none⟩)] (Pc.mk tb g x y z mv mb mo) 0 B))
  have HBS : ∀ ts, PS.Short ts.length (B ts) := fun ts => hB ▸ PS.ps_short (fun lv ts => PS.pe_short F (.ex 1) lv ts) F .bl 0 ts
  rw [PS.prog, hB] at hRR
  clear hB hE E
  have hgl : g < V.heap.size := h.lt
  have htl : tb < V.heap.size := h.ltb
  have hml : mb < V.heap.size := h.ltm
  obtain ⟨b, hb⟩ : ∃ b, V.heap.size = b := ⟨_, rfl⟩
  obtain ⟨W1, hW1⟩ : ∃ W, V.alloc (.cells #[.slice none 0 0, .slice none 0 0, .slice none 0 0] 26) = W := ⟨_, rfl⟩
  rw [hb] at hgl htl hml
  have z1 : W1.heap.size = b + 1 := by rw [← hW1, World.size_alloc, hb]
  have T1 := Lib.hid (show Tp W1 (b + 1) (Pc.mk tb g (.slice none 0 0) (.slice none 0 0) (.slice none 0 0) mv mb mo) ts [] [] from ⟨hW1 ▸ h.alloc _, ⟨rfl, .inl ⟨rfl, rfl⟩⟩, ⟨rfl, .inl ⟨rfl, rfl⟩⟩, (fun b h => by cases h), (show g < b + 1 by omega), (show tb < b + 1 by omega), (show mb < b + 1 by omega), by omega, (by simp)⟩)
  have R1 := Lib.hid (show W1.heap[b]? = some (.cells #[.slice none 0 0, .slice none 0 0, .slice none 0 0] 26 (0, 0)) from hW1 ▸ hb ▸ World.alloc_heap_new V _)
  have C1 := Lib.hid (show Chg (· = g) V W1 from hW1 ▸ (Chg.refl _ V).alloc _)
  have HW1 := Lib.hid hW1
  have HVb := Lib.hid hb
  have HSS := Lib.hid HS
  have HBSS := Lib.hid HBS
  clear h hW1 hb hmv hmo HS HBS
  obtain ⟨RD, hRD⟩ : ∃ RD, PS.decls F [] [] ts = RD := ⟨_, rfl⟩
  rw [hRD] at hRR
  have hRDo : RD ≠ .out := fun e => hR (by rw [← hRR, e]; rfl)
  have HRR := Lib.hid hRR
  have HRD := Lib.hid hRD
  clear hRR hRD
  go_enter Tryz.func34, Tryz.ntmps34
  go_wp2_with fail
  rw [HW1.out]
  clear HW1
  go_loopw [3] (fun _ W => ∃ (f' : Nat) (d v : List PS.Bs) (x y : Value) (r : List LX.Tok), Hid (PS.decls f' d v r = RD) ∧ Hid (Tp W (b + 1) (Pc.mk tb g x y (.slice none 0 0) mv mb mo) r d v) ∧ Hid (Chg (Sg g (b + 1)) W1 W)) (fun _ W => restLen W g)
  case atStart => exact ⟨F, [], [], _, _, ts, HRD.out, T1.out, Chg.refl _ _⟩
  case round =>
  obtain ⟨f', d, v, x, y, r, hE, T2, C2⟩ := hrel
  clear T1 HRD
  cases f' with
  | zero => exact absurd hE.out.symm hRDo
  | succ f2 =>
  obtain ⟨t, u, rfl⟩ := T2.out.pat.good.ne
  have hgd := T2.out.pat.good
  have hE : (if t.text = PS.wDurable then (PS.names v d u).bind fun d r => PS.decls f2 d v r else if t.text = PS.wVolatile then (PS.names d v u).bind fun v r => PS.decls f2 d v r else .ok (d, v) (t :: u)) = RD := hE.out
  have HN := Lib.hid (sees_any wr (Pc.mk tb g x y (.slice none 0 0) mv mb mo) t u 0 PS.wDurable T2.out.pat)
  have RW := Lib.hid (show restLen wr g = (t :: u).length from T2.out.pat.rest)
  by_cases h1 : t.text = PS.wDurable
  · have hb : (t.text == PS.wDurable) = true := by rw [beq_iff_eq]; exact h1
    have hgu := hgd.tail (by rw [h1]; decide)
    rw [if_pos h1] at hE
    rw [hb] at HN
    clear hb
    cases hx : PS.names v d u with
    | out => rw [hx] at hE; exact absurd hE.symm hRDo
    | err p q =>
      rw [hx] at hE
      have hE : PS.PR.err p q = RD := hE
      obtain rfl := hE
      have hE2 : PS.PR.err p q = R := HRR.out
      obtain rfl := hE2
      have HD := Lib.hid (fun (W : World) (hW : Tp W (b + 1) (Pc.mk tb g x y (.slice none 0 0) mv mb mo) (t :: u) d v) => (hx ▸ decl_d W (b + 1) tb g mb x y (.slice none 0 0) mv mo t u d v h1 hW (by rw [hx]; exact nofun) : Calls Tryz.prog 57 #[.pointer (some ⟨g, 0, none⟩)] W (DRes W (b + 1) g (fun l r W => ∃ x, Tp W (b + 1) (Pc.mk tb g x y (.slice none 0 0) mv mb mo) r l v) (.err p q))))
      clear hx h1 hR hRDo HRR HB HBSS HSS
      go_wp2_with (first
        | (go_at_call 56; refine HN.out.mono ?_; clear HN; rintro e w3 ⟨rfl, hb3⟩; have T3 := Lib.hid (T2.out.below hb3); have C3 := Lib.hid (C2.out.trans (chgB (S := Sg g (b + 1)) hb3) (fun _ _ h => h)); clear hb3)
        | (go_at_call 57; refine (HD.out _ T3.out).mono ?_; clear HD; rintro e w4 ⟨hC, rfl⟩))
      have CC := C3.out.trans hC (fun _ _ e => e)
      exact ⟨rfl, C1.out.trans CC (fun x hx e => e.elim id fun h => absurd hx (by have := HVb.out; omega)), rfl⟩
    | ok l r' =>
      rw [hx] at hE
      have HE := Lib.hid (show PS.decls f2 l v r' = RD from hE)
      have hlen := names_len hgu hx
      have HD := Lib.hid (fun (W : World) (hW : Tp W (b + 1) (Pc.mk tb g x y (.slice none 0 0) mv mb mo) (t :: u) d v) => (hx ▸ decl_d W (b + 1) tb g mb x y (.slice none 0 0) mv mo t u d v h1 hW (by rw [hx]; exact nofun) : Calls Tryz.prog 57 #[.pointer (some ⟨g, 0, none⟩)] W (DRes W (b + 1) g (fun l r W => ∃ x, Tp W (b + 1) (Pc.mk tb g x y (.slice none 0 0) mv mb mo) r l v) (.ok l r'))))
      clear hx hE h1 HB HBSS HSS HRR hgd hgu
      go_wp2_with (first
        | (go_at_call 56; refine HN.out.mono ?_; clear HN; rintro e w3 ⟨rfl, hb3⟩; have T3 := Lib.hid (T2.out.below hb3); have C3 := Lib.hid (C2.out.trans (chgB (S := Sg g (b + 1)) hb3) (fun _ _ h => h)); clear hb3)
        | (go_at_call 57; refine (HD.out _ T3.out).mono ?_; clear HD; rintro e w4 ⟨hC, rfl, x2, hT⟩; have T4 := Lib.hid hT; have C4 := Lib.hid (C3.out.trans hC (fun _ _ e => e)); clear hC hT))
      refine ⟨⟨_, _, _, _, _, _, HE.out, T4.out, C4.out⟩, ?_⟩
      rw [RW.out, show restLen w4 g = r'.length from T4.out.pat.rest, List.length_cons]
      omega
  have hb1 : (t.text == PS.wDurable) = false := by rw [beq_eq_false_iff_ne]; exact h1
  have HN2 := Lib.hid (fun (W : World) (hW : Tp W (b + 1) (Pc.mk tb g x y (.slice none 0 0) mv mb mo) (t :: u) d v) => sees_any W (Pc.mk tb g x y (.slice none 0 0) mv mb mo) t u 0 PS.wVolatile hW.pat)
  rw [if_neg h1] at hE
  rw [hb1] at HN
  clear hb1
  by_cases h2 : t.text = PS.wVolatile
  · have hb : (t.text == PS.wVolatile) = true := by rw [beq_iff_eq]; exact h2
    have hgu := hgd.tail (by rw [h2]; decide)
    rw [if_pos h2] at hE
    simp only [hb] at HN2
    clear hb h1
    cases hx : PS.names d v u with
    | out => rw [hx] at hE; exact absurd hE.symm hRDo
    | err p q =>
      rw [hx] at hE
      have hE : PS.PR.err p q = RD := hE
      obtain rfl := hE
      have hE2 : PS.PR.err p q = R := HRR.out
      obtain rfl := hE2
      have HD := Lib.hid (fun (W : World) (hW : Tp W (b + 1) (Pc.mk tb g x y (.slice none 0 0) mv mb mo) (t :: u) d v) => (hx ▸ decl_v W (b + 1) tb g mb x y (.slice none 0 0) mv mo t u d v h2 hW (by rw [hx]; exact nofun) : Calls Tryz.prog 57 #[.pointer (some ⟨g, 0, none⟩)] W (DRes W (b + 1) g (fun l r W => ∃ y, Tp W (b + 1) (Pc.mk tb g x y (.slice none 0 0) mv mb mo) r d l) (.err p q))))
      clear hx h2 hR hRDo HRR HB HBSS HSS
      go_wp2_with (first
        | (go_at_call 56; refine HN.out.mono ?_; clear HN; rintro e w3 ⟨rfl, hb3⟩; have T3 := Lib.hid (T2.out.below hb3); have C3 := Lib.hid (C2.out.trans (chgB (S := Sg g (b + 1)) hb3) (fun _ _ h => h)); clear hb3)
        | (go_at_call 56; refine (HN2.out _ T3.out).mono ?_; clear HN2; rintro e w4 ⟨rfl, hb3⟩; have T4 := Lib.hid (T3.out.below hb3); have C4 := Lib.hid (C3.out.trans (chgB (S := Sg g (b + 1)) hb3) (fun _ _ h => h)); clear hb3)
        | (go_at_call 57; refine (HD.out _ T4.out).mono ?_; clear HD; rintro e w5 ⟨hC, rfl⟩))
      have CC := C4.out.trans hC (fun _ _ e => e)
      exact ⟨rfl, C1.out.trans CC (fun x hx e => e.elim id fun h => absurd hx (by have := HVb.out; omega)), rfl⟩
    | ok l r' =>
      rw [hx] at hE
      have HE := Lib.hid (show PS.decls f2 d l r' = RD from hE)
      have hlen := names_len hgu hx
      have HD := Lib.hid (fun (W : World) (hW : Tp W (b + 1) (Pc.mk tb g x y (.slice none 0 0) mv mb mo) (t :: u) d v) => (hx ▸ decl_v W (b + 1) tb g mb x y (.slice none 0 0) mv mo t u d v h2 hW (by rw [hx]; exact nofun) : Calls Tryz.prog 57 #[.pointer (some ⟨g, 0, none⟩)] W (DRes W (b + 1) g (fun l r W => ∃ y, Tp W (b + 1) (Pc.mk tb g x y (.slice none 0 0) mv mb mo) r d l) (.ok l r'))))
      clear hx hE h2 HB HBSS HSS HRR hgd hgu
      go_wp2_with (first
        | (go_at_call 56; refine HN.out.mono ?_; clear HN; rintro e w3 ⟨rfl, hb3⟩; have T3 := Lib.hid (T2.out.below hb3); have C3 := Lib.hid (C2.out.trans (chgB (S := Sg g (b + 1)) hb3) (fun _ _ h => h)); clear hb3)
        | (go_at_call 56; refine (HN2.out _ T3.out).mono ?_; clear HN2; rintro e w4 ⟨rfl, hb3⟩; have T4 := Lib.hid (T3.out.below hb3); have C4 := Lib.hid (C3.out.trans (chgB (S := Sg g (b + 1)) hb3) (fun _ _ h => h)); clear hb3)
        | (go_at_call 57; refine (HD.out _ T4.out).mono ?_; clear HD; rintro e w5 ⟨hC, rfl, x2, hT⟩; have T5 := Lib.hid hT; have C5 := Lib.hid (C4.out.trans hC (fun _ _ e => e)); clear hC hT))
      refine ⟨⟨_, _, _, _, _, _, HE.out, T5.out, C5.out⟩, ?_⟩
      rw [RW.out, show restLen w5 g = r'.length from T5.out.pat.rest, List.length_cons]
      omega
  have hb : (t.text == PS.wVolatile) = false := by rw [beq_eq_false_iff_ne]; exact h2
  rw [if_neg h2] at hE
  simp only [hb] at HN2
  clear hb h1 h2
  obtain rfl := hE
  have HRR := Lib.hid (show ((PS.hands B F [] (t :: u)).bind fun on r => PS.PR.ok (PS.Un.mk d v (PS.sortH on)) r) = R from HRR.out)
  clear hRDo RW
  go_wp2_with (first
    | (go_at_call 56; refine HN.out.mono ?_; clear HN; rintro e w3 ⟨rfl, hb3⟩; have T3 := Lib.hid (T2.out.below hb3); have C3 := Lib.hid (C2.out.trans (chgB (S := Sg g (b + 1)) hb3) (fun _ _ h => h)); clear hb3)
    | (go_at_call 56; refine (HN2.out _ T3.out).mono ?_; clear HN2; rintro e w4 ⟨rfl, hb3⟩; have T4 := Lib.hid (T3.out.below hb3); have C4 := Lib.hid (C3.out.trans (chgB (S := Sg g (b + 1)) hb3) (fun _ _ h => h)); clear hb3))
  clear T2 C2 T3 C3 hgd
  obtain ⟨Wb, hWb⟩ : ∃ Z, Z = w4 := ⟨_, rfl⟩
  subst hWb
  obtain ⟨RH, hRH⟩ : ∃ RH, PS.hands B F [] (t :: u) = RH := ⟨_, rfl⟩
  have hRR := HRR.out
  rw [hRH] at hRR
  have hRHo : RH ≠ .out := fun e => hR (by rw [← hRR, e]; rfl)
  have HRH := Lib.hid hRH
  have HRR := Lib.hid hRR
  have hbg : b + 1 ≤ Wb.heap.size := T4.out.big
  have H0 := Lib.hid (show Hp Wb Wb.heap.size (Pc.mk tb g x y (.slice none 0 0) mv mb mo) (t :: u) none 0 0 [] [] from ⟨T4.out.pat, TR.nil _ _ _ _, rfl, (show g < _ by omega), (show tb < _ by omega), (show mb < _ by omega), Nat.le_refl _⟩)
  have hl0 : (t :: u).length ≤ 4000 := T4.out.pat.big
  clear hRH hRR
  go_loopw [11] (fun _ W => ∃ (f' j c : Nat) (hs : List PS.Hd) (A : Option Addr) (cs : List Value) (r : List LX.Tok), j + r.length ≤ 4000 ∧ Hid (PS.hands B f' hs r = RH) ∧ Hid ((hs.map Prod.fst).Nodup) ∧ Hid (Hp W Wb.heap.size (Pc.mk tb g x y (.slice A j c) mv mb mo) r A j c hs cs) ∧ Hid (Chg (Sg g Wb.heap.size) Wb W)) (fun _ W => restLen W g)
  case atStart => exact ⟨F, 0, 0, [], none, [], t :: u, by omega, HRH.out, List.nodup_nil, H0.out, Chg.refl _ _⟩
  case round =>
  obtain ⟨f', j, c, hs, A, cs, r, hj, hE, hnd, H2, D2⟩ := hrel
  clear H0 HRH hl0
  cases f' with
  | zero => exact absurd hE.out.symm hRHo
  | succ f3 =>
  obtain ⟨tt, uu, rfl⟩ := H2.out.pat.good.ne
  have hgd := H2.out.pat.good
  have hE : (if tt.text = PS.wOn then (PS.hand B hs uu).bind fun h r => PS.hands B f3 (hs ++ [h]) r else if tt.kind = 0 then .ok hs (tt :: uu) else .err tt.pos 10) = RH := hE.out
  have HN := Lib.hid (sees_any wr (Pc.mk tb g x y (.slice A j c) mv mb mo) tt uu 0 PS.wOn H2.out.pat)
  have RW := Lib.hid (show restLen wr g = (tt :: uu).length from H2.out.pat.rest)
  rw [List.length_cons] at hj
  by_cases h1 : tt.text = PS.wOn
  · have hb : (tt.text == PS.wOn) = true := by rw [beq_iff_eq]; exact h1
    rw [if_pos h1] at hE
    rw [hb] at HN
    clear hb
    cases hx : PS.hand B hs uu with
    | out => rw [hx] at hE; exact absurd hE.symm hRHo
    | err p q =>
      rw [hx] at hE
      have hE : PS.PR.err p q = RH := hE
      obtain rfl := hE
      have hE2 : PS.PR.err p q = R := HRR.out
      obtain rfl := hE2
      have HD := Lib.hid (fun (W : World) (hW : Hp W Wb.heap.size (Pc.mk tb g x y (.slice A j c) mv mb mo) (tt :: uu) A j c hs cs) => (hx ▸ handler_any W Wb.heap.size tb g mb x y mv mo A j c hs cs B (HB.out x y _) tt uu h1 hW (by omega) (by rw [hx]; exact nofun) : Calls Tryz.prog 58 #[.pointer (some ⟨g, 0, none⟩)] W (HRes W Wb.heap.size g (fun z r W => ∃ A' c' cs', Hp W Wb.heap.size (Pc.mk tb g x y (.slice A' (j + 1) c') mv mb mo) r A' (j + 1) c' (hs ++ [z]) cs') (.err p q))))
      clear hx h1 hR hRHo HRR HB HBSS HSS
      go_wp2_with (first
        | (go_at_call 56; refine HN.out.mono ?_; clear HN; rintro e w3 ⟨rfl, hb3⟩; have H3 := Lib.hid (H2.out.below hb3); have D3 := Lib.hid (D2.out.trans (chgB (S := Sg g Wb.heap.size) hb3) (fun _ _ h => h)); clear hb3)
        | (go_at_call 58; refine (HD.out _ H3.out).mono ?_; clear HD; rintro e w4 ⟨hC, rfl⟩))
      have CC := C4.out.trans (D3.out.trans hC (fun _ _ e => e)) (fun z hz e => e.elim .inl fun h => .inr (by omega))
      exact ⟨rfl, C1.out.trans CC (fun x hx e => e.elim id fun h => absurd hx (by have := HVb.out; omega)), rfl⟩
    | ok z r' =>
      rw [hx] at hE
      have HE := Lib.hid (show PS.hands B f3 (hs ++ [z]) r' = RH from hE)
      have hlen := hand_len HBSS.out hx
      have hnew := hand_new hx
      have HND := Lib.hid (show ((hs ++ [z]).map Prod.fst).Nodup by
        rw [List.map_append, List.nodup_append]
        refine ⟨hnd.out, by simp, fun a ha b hb e => ?_⟩
        have hb2 : b = z.1 := by simpa using hb
        subst e
        exact hnew (hb2 ▸ ha))
      have HD := Lib.hid (fun (W : World) (hW : Hp W Wb.heap.size (Pc.mk tb g x y (.slice A j c) mv mb mo) (tt :: uu) A j c hs cs) => (hx ▸ handler_any W Wb.heap.size tb g mb x y mv mo A j c hs cs B (HB.out x y _) tt uu h1 hW (by omega) (by rw [hx]; exact nofun) : Calls Tryz.prog 58 #[.pointer (some ⟨g, 0, none⟩)] W (HRes W Wb.heap.size g (fun z r W => ∃ A' c' cs', Hp W Wb.heap.size (Pc.mk tb g x y (.slice A' (j + 1) c') mv mb mo) r A' (j + 1) c' (hs ++ [z]) cs') (.ok z r'))))
      clear hx hE h1 HB HBSS HSS HRR hgd hnew hnd
      go_wp2_with (first
        | (go_at_call 56; refine HN.out.mono ?_; clear HN; rintro e w3 ⟨rfl, hb3⟩; have H3 := Lib.hid (H2.out.below hb3); have D3 := Lib.hid (D2.out.trans (chgB (S := Sg g Wb.heap.size) hb3) (fun _ _ h => h)); clear hb3)
        | (go_at_call 58; refine (HD.out _ H3.out).mono ?_; clear HD; rintro e w4 ⟨hC, rfl, A2, c2, cs2, hT⟩; have H4 := Lib.hid hT; have D4 := Lib.hid (D3.out.trans hC (fun _ _ e => e)); clear hC hT))
      refine ⟨⟨_, _, _, _, _, _, _, by omega, HE.out, HND.out, H4.out, D4.out⟩, ?_⟩
      rw [RW.out, show restLen w4 g = r'.length from H4.out.pat.rest, List.length_cons]
      omega
  have hb : (tt.text == PS.wOn) = false := by rw [beq_eq_false_iff_ne]; exact h1
  rw [if_neg h1] at hE
  rw [hb] at HN
  clear hb h1 HB HBSS RW
  by_cases hk : tt.kind = 0
  · have hb : ((tt.kind : Int) == 0) = true := by rw [beq_iff_eq]; omega
    rw [if_pos hk] at hE
    obtain rfl := hE
    have hE2 : PS.PR.ok (PS.Un.mk d v (PS.sortH hs)) (tt :: uu) = R := HRR.out
    obtain rfl := hE2
    clear hk hRHo HRR hR
    obtain ⟨Ad, cd, ed, _⟩ := T4.out.dur.form
    obtain ⟨Av, cv, ev, _⟩ := T4.out.vol.form
    dsimp only at ed ev
    subst ed ev
    go_wp2_with (first
      | (go_at_call 56; refine HN.out.mono ?_; clear HN; rintro e w3 ⟨rfl, hb3⟩; have H3 := Lib.hid (H2.out.below hb3); have D3 := Lib.hid (D2.out.trans (chgB (S := Sg g Wb.heap.size) hb3) (fun _ _ h => h)); clear hb3)
      | (go_at_call 60; refine (next_any _ (Pc.mk tb g (.slice Ad d.length cd) (.slice Av v.length cv) (.slice A j c) mv mb mo) tt uu 0 H3.out.pat).mono ?_; rintro e w5 ⟨rfl, hb3⟩; have H5 := Lib.hid (H3.out.below hb3); have D5 := Lib.hid (D3.out.trans (chgB (S := Sg g Wb.heap.size) hb3) (fun _ _ h => h)); clear hb3)
      | (go_at_call 59; refine (need_any _ (Pc.mk tb g (.slice Ad d.length cd) (.slice Av v.length cv) (.slice A j c) mv mb mo) tt uu 0 true H5.out.pat).mono ?_; rintro e w6 ⟨rfl, hb3⟩; have H6 := Lib.hid (H5.out.below hb3); have D6 := Lib.hid (D5.out.trans (chgB (S := Sg g Wb.heap.size) hb3) (fun _ _ h => h)); have y4 : w6.cell? ⟨g, 4, none⟩ = some (.slice A j c) := H6.out.cell4; clear hb3)
      | (go_at_call 61; refine (HSS.out w6 Wb.heap.size (.slice Ad d.length cd) (.slice Av v.length cv) A j c hs cs (tt :: uu) H6.out hnd.out (by rw [H6.out.len]; omega)).mono ?_; rintro e w7 ⟨rfl, hC, cs7, hH⟩; have H7 := Lib.hid hH; have D7 := Lib.hid (D6.out.trans hC (fun _ _ h => .inr h)); obtain ⟨c2, c3⟩ := H7.out.pat.cell23; have c4 : w7.cell? ⟨g, 4, none⟩ = some (.slice A j c) := H7.out.cell4; dsimp only at c2 c3; have R7 := Lib.hid (show w7.heap[V.heap.size]? = some (.cells #[.slice none 0 0, .slice none 0 0, .slice none 0 0] 26 (0, 0)) from HVb.out ▸ ((D7.out.block b (by omega) (fun e => e.elim (by omega) (by omega))).trans ((C4.out.block b (by omega) (fun e => e.elim (by omega) (by omega))).trans R1.out))); have g0 := cell_of_row w7 _ 0 _ _ (0, 0) R7.out; have g1 := cell_of_row w7 _ 1 _ _ (0, 0) R7.out; have g2 := cell_of_row w7 _ 2 _ _ (0, 0) R7.out; have f0 : w7.frozen? ⟨V.heap.size, 0, none⟩ = false := (by simp [World.frozen?, R7.out]); have f1 : w7.frozen? ⟨V.heap.size, 1, none⟩ = false := (by simp [World.frozen?, R7.out]); have f2 : w7.frozen? ⟨V.heap.size, 2, none⟩ = false := (by simp [World.frozen?, R7.out]); clear hC hH))
    obtain ⟨k1, k2, k3⟩ := pg_fin HVb.out C1.out T4.out C4.out D7.out H7.out R7.out rfl
    refine bodyPost_ret (ret_Un rfl _ rfl k1) rfl ⟨k2, _, rfl, k3⟩
  · have hb : ((tt.kind : Int) == 0) = false := by rw [beq_eq_false_iff_ne]; omega
    rw [if_neg hk] at hE
    obtain rfl := hE
    have hE2 : PS.PR.err tt.pos 10 = R := HRR.out
    obtain rfl := hE2
    clear hk hRHo HRR hR HSS
    go_wp2_with (first
      | (go_at_call 56; refine HN.out.mono ?_; clear HN; rintro e w3 ⟨rfl, hb3⟩; have H3 := Lib.hid (H2.out.below hb3); have D3 := Lib.hid (D2.out.trans (chgB (S := Sg g Wb.heap.size) hb3) (fun _ _ h => h)); clear hb3)
      | (go_at_call 60; refine (next_any _ (Pc.mk tb g x y (.slice A j c) mv mb mo) tt uu 0 H3.out.pat).mono ?_; rintro e w5 ⟨rfl, hb3⟩; have H5 := Lib.hid (H3.out.below hb3); have D5 := Lib.hid (D3.out.trans (chgB (S := Sg g Wb.heap.size) hb3) (fun _ _ h => h)); clear hb3)
      | (go_at_call 59; refine (need_any _ (Pc.mk tb g x y (.slice A j c) mv mb mo) tt uu 0 false H5.out.pat).mono ?_; rintro e w6 ⟨rfl, hb3⟩; have D6 := Lib.hid (D5.out.trans (chgB (S := Sg g Wb.heap.size) hb3) (fun _ _ h => h)); clear hb3))
    have CC := C4.out.trans D6.out (fun z hz e => e.elim .inl fun h => .inr (by omega))
    exact ⟨rfl, C1.out.trans CC (fun x hx e => e.elim id fun h => absurd hx (by have := HVb.out; omega)), rfl⟩
end Go.Proofs.YtlfpaemfhanpiaaGreatDoor
