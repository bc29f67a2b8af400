/-
  The law's equal: the program's tokens are the reference's. Conditions: the source is of a length of which we speak; strconv.ErrRange holds an error or nil.
  Words for the laws: worlds in which the memory ahead of the law stands as it stood and strconv.ErrRange holds an error; equal, lives, Tokens, Text in these words; string(b) of a new block.
-/
import Derived.Deep.RegionHeld3
import Derived.Test.YtiejhgdjkfhmoaaDoorK10
import Derived.Test.YtiejhgdjkfhmoaaDoorK12
import Derived.Test.YtiejhgdjkfhmoaaDoorK5
import Derived.Laws.BytesString
import Derived.Test.YtiejhgdjkfhmoaaDoorK14
import Derived.Test.YtiejhgdjkfhmoaaDoorK15

namespace Go.Proofs.YtiejhgdjkfhmoaaDoor
open Go Go.RowKit Go.Proofs Go.Proofs.YtiejhgdjkfhmoaaDoor.LX

theorem rtoks_any (s : ByteArray) (hs : s.size ≤ 1000000000) (w : World) :
    Calls Tryd.prog 18 #[.string s] w fun e w' => (∃ A c, e = .returned (.tuple #[.slice A (outT (lex (bsOf s))).length c, .int .i64 ((outP (lex (bsOf s)) : Nat) : Int), .int .i64 ((outC (lex (bsOf s)) : Nat) : Int)]) ∧ TRow w' w.heap.size 49 (.slice A (outT (lex (bsOf s))).length c) (outT (lex (bsOf s)))) ∧ Below w.heap.size w w' :=
  (refTokens_any s hs w).mono fun _ _ h => ⟨h.1.form, h.2⟩
theorem cell_lt {W : World} {p : Addr} {v : Value} (h : W.cell? p = some v) : p.block < W.heap.size := World.block_lt_of_cell? W p h
theorem cell_up {W W' : World} {p : Addr} {v : Value} (hb : Below W.heap.size W.drew W') (h : W.cell? p = some v) : W'.cell? p = some v := (hb.cell (p := p) (cell_lt h)).trans h
theorem toks8 {W W' : World} {p1 p2 p3 p4 p5 p6 p7 p8 : Addr} {v1 v2 v3 v4 v5 v6 v7 v8 : Value} (hb : Below W.heap.size W.drew W') (h : W.cell? p1 = some v1 ∧ W.cell? p2 = some v2 ∧ W.cell? p3 = some v3 ∧ W.cell? p4 = some v4 ∧ W.cell? p5 = some v5 ∧ W.cell? p6 = some v6 ∧ W.cell? p7 = some v7 ∧ W.cell? p8 = some v8) : W'.cell? p1 = some v1 ∧ W'.cell? p2 = some v2 ∧ W'.cell? p3 = some v3 ∧ W'.cell? p4 = some v4 ∧ W'.cell? p5 = some v5 ∧ W'.cell? p6 = some v6 ∧ W'.cell? p7 = some v7 ∧ W'.cell? p8 = some v8 :=
  ⟨cell_up hb h.1, cell_up hb h.2.1, cell_up hb h.2.2.1, cell_up hb h.2.2.2.1, cell_up hb h.2.2.2.2.1, cell_up hb h.2.2.2.2.2.1, cell_up hb h.2.2.2.2.2.2.1, cell_up hb h.2.2.2.2.2.2.2⟩
set_option maxRecDepth 100000 in
set_option maxHeartbeats 4000000 in
theorem equal_any (s : ByteArray) (hs : s.size ≤ 1000000000) (w : World) (hE : ErrV w) :
    Calls Tryd.prog 12 #[.string s] w fun e w' => e = .returned (.bool true) ∧ Below w.heap.size w w' := by
  have HT := Lib.hid (toks_any s hs w hE)
  have HR := Lib.hid (fun V => rtoks_any s hs V)
  have htl := lex_len s
  obtain ⟨ts, hts⟩ : ∃ x, outT (lex (bsOf s)) = x := ⟨_, rfl⟩
  obtain ⟨p, hp⟩ : ∃ x, outP (lex (bsOf s)) = x := ⟨_, rfl⟩
  obtain ⟨k, hk⟩ : ∃ x, outC (lex (bsOf s)) = x := ⟨_, rfl⟩
  rw [hts, hp, hk] at HT HR
  rw [hts] at htl
  have np : ((p : Int) != (p : Int)) = false := by simp
  have nk : ((k : Int) != (k : Int)) = false := by simp
  have nl : ((ts.length : Int) != (ts.length : Int)) = false := by simp
  clear hts hp hk hE
  go_enter Tryd.func12, Tryd.ntmps12
  go_wp2_with (first
    | (go_at_call 15
       refine HT.out.mono ?_
       rintro e w1 ⟨⟨A1, c1, rfl, ht1⟩, hb1⟩
       have HT1 := Lib.hid ht1
       have HB1 := Lib.hid hb1
       clear ht1 hb1 HT)
    | (go_at_call 18
       refine (HR.out _).mono ?_
       rintro e w2 ⟨⟨A2, c2, rfl, ht2⟩, hb2⟩
       have HT2 := Lib.hid ht2
       have HB2 := Lib.hid hb2
       clear ht2 hb2 HR))
  clear np nk nl
  have HT12 := Lib.hid (tRow_below HT1.out HB2.out)
  have HB := Lib.hid (HB1.out.trans (HB2.out.mono HB1.out.size))
  have hz := HB.out.size
  clear HT1 HB1 HB2
  go_loopw [9] (fun i V => ∃ j : Nat, j ≤ ts.length ∧ i = .int .i64 (j : Int) ∧ Below w2.heap.size w2 V) (fun i _ => ts.length - (intOf i).toNat)
  case atStart => exact ⟨0, Nat.zero_le _, rfl, Below.refl _ _⟩
  case round =>
    obtain ⟨j, hj, rfl, hB⟩ := hrel
    by_cases hlt : j < ts.length
    · obtain ⟨g1, rfl, hg1⟩ := tRow_blk HT12.out (by omega)
      obtain ⟨g2, rfl, hg2⟩ := tRow_blk HT2.out (by omega)
      have hg1 := hg1.below hB
      have hg2 := hg2.below hB
      obtain ⟨t, ht⟩ : ∃ t, ts[j]? = some t := ⟨ts[j], List.getElem?_eq_getElem hlt⟩
      obtain ⟨a0, a1, a2, a3⟩ := hg1.cells j t ht
      obtain ⟨b0, b1, b2, b3⟩ := hg2.cells j t ht
      have HSM := Lib.hid (fun V => same_eq t.kind t.pos t.num ⟨t.text.toArray⟩ V)
      have HQ := Lib.hid (And.intro a0 (And.intro a1 (And.intro a2 (And.intro a3 (And.intro b0 (And.intro b1 (And.intro b2 b3)))))))
      clear a0 a1 a2 a3 b0 b1 b2 b3 hg1 hg2 ht
      obtain ⟨tk, e1⟩ : ∃ x, t.kind = x := ⟨_, rfl⟩
      obtain ⟨tp, e2⟩ : ∃ x, t.pos = x := ⟨_, rfl⟩
      obtain ⟨tn, e3⟩ : ∃ x, t.num = x := ⟨_, rfl⟩
      obtain ⟨tt, e4⟩ : ∃ x : ByteArray, ⟨t.text.toArray⟩ = x := ⟨_, rfl⟩
      rw [e1, e2, e3, e4] at HSM HQ
      clear e1 e2 e3 e4
      go_wp2_with fail
      go_region_held3 (fun W => W.cell? ⟨g1, j * 4, none⟩ = some (.int .i64 (tk : Int)) ∧ W.cell? ⟨g1, j * 4 + 1, none⟩ = some (.int .i64 (tp : Int)) ∧ W.cell? ⟨g1, j * 4 + 2, none⟩ = some (.string tt) ∧ W.cell? ⟨g1, j * 4 + 3, none⟩ = some (.int .i64 (tn : Int)) ∧ W.cell? ⟨g2, j * 4, none⟩ = some (.int .i64 (tk : Int)) ∧ W.cell? ⟨g2, j * 4 + 1, none⟩ = some (.int .i64 (tp : Int)) ∧ W.cell? ⟨g2, j * 4 + 2, none⟩ = some (.string tt) ∧ W.cell? ⟨g2, j * 4 + 3, none⟩ = some (.int .i64 (tn : Int)))
        (first | exact HQ.out | exact F1.out)
        (first
          | (go_at_call 19; refine (HSM.out _).mono ?_; rintro e w5 ⟨rfl, hb5⟩; have F1 := Lib.hid (toks8 hb5 HQ.out)))
      all_goals
        have hB5 := Lib.hid (hB.drew.trans (hb5.mono hB.size))
        clear hb5
        go_wp2
        go_roundw
        case rel => exact ⟨j + 1, by omega, by go_num, hB5.out⟩
        case measure => simp [intOf]; omega
    · go_wp2
      go_ret
      exact ⟨rfl, HB.out.trans (hB.mono hz)⟩
end Go.Proofs.YtiejhgdjkfhmoaaDoor

namespace Go.Proofs.YtiejhgdjkfhmoaaDoor
open Go Go.RowKit Go.Proofs Go.Proofs.YtiejhgdjkfhmoaaDoor.LX

def Gd (w V : World) : Prop := Below w.heap.size w V ∧ ErrV V
theorem Gd.refl {w : World} (h : ErrV w) : Gd w w := ⟨Below.refl _ _, h⟩
theorem Gd.next {w V V' : World} (h : Gd w V) (hb : Below V.heap.size V V') : Gd w V' := ⟨h.1.trans (hb.mono h.1.size), h.2.keep hb⟩
theorem Gd.alloc {w V : World} (h : Gd w V) (o : Obj) : Gd w (V.alloc o) := h.next ((Below.refl _ _).alloc (Nat.le_refl _) o)
theorem Gd.drew {w V : World} (h : Gd w V) : Gd w V.drew := h.next (Below.refl _ _).drew
theorem equal_gd {w : World} (s : ByteArray) (hs : s.size ≤ 1000000000) (V : World) (h : Gd w V) : Calls Tryd.prog 12 #[.string s] V fun e w' => e = .returned (.bool true) ∧ Gd w w' :=
  (equal_any s hs V h.2).mono fun _ _ k => ⟨k.1, h.next k.2⟩
theorem lives_gd {w : World} (V : World) (h : Gd w V) : Calls Tryd.prog 14 #[] V fun e w' => e = .returned (.bool true) ∧ Gd w w' :=
  (lives_any V h.2).mono fun _ _ k => ⟨k.1, h.next k.2⟩
/-- What a law needs of a call of Tokens. -/
theorem toks_gd {w : World} (s : ByteArray) (hs : s.size ≤ 1000000000) (V : World) (h : Gd w V) : Calls Tryd.prog 15 #[.string s] V fun e w' => (∃ A c, e = .returned (.tuple #[.slice A (outT (lex (bsOf s))).length c, .int .i64 ((outP (lex (bsOf s)) : Nat) : Int), .int .i64 ((outC (lex (bsOf s)) : Nat) : Int)]) ∧ TRow w' V.heap.size 36 (.slice A (outT (lex (bsOf s))).length c) (outT (lex (bsOf s)))) ∧ Below V.heap.size V w' ∧ Gd w w' :=
  (toks_any s hs V h.2).mono fun _ _ k => ⟨k.1, k.2, h.next k.2⟩
def strOf (ns : List Int) : ByteArray := ns.foldl (fun r n => r.push (UInt8.ofNat n.toNat)) ByteArray.empty
theorem strOf_size (ns : List Int) : (strOf ns).size = ns.length := by
  suffices ∀ (ns : List Int) (r : ByteArray), (ns.foldl (fun r n => r.push (UInt8.ofNat n.toNat)) r).size = r.size + ns.length by
    have := this ns ByteArray.empty
    rw [show ByteArray.empty.size = 0 from rfl, Nat.zero_add] at this
    exact this
  intro ns
  induction ns with
  | nil => intro r; rfl
  | cons n t ih =>
    intro r
    rw [List.foldl_cons, ih, ByteArray.size_push, List.length_cons]
    omega
theorem conv_str (W : World) (g n c : Nat) (ns : List Int) (hn : ns.length = n) (h : ∀ j v, (ns.map (Value.int .u8))[j]? = some v → W.cell? ⟨g, j, none⟩ = some v) :
    (convert 25 9 (.slice (some ⟨g, 0, none⟩) n c)).run Tryd.prog W = .ok (.string (strOf ns)) W := by
  rw [run_convert_bytes_string W 25 9 5 _ _ _ Tryd.underlying25 Tryd.underlying5 Tryd.underlying9]
  refine run_bytesToString W _ n c ns ?_
  have k := run_loadCells_list (P := Tryd.prog) W ⟨g, 0, none⟩ (ns.map (Value.int .u8)) (fun j v hj => by rw [Addr.add_lit, Nat.zero_add]; exact h j v hj)
  rw [List.length_map, hn] at k
  exact k
theorem conv_two (W : World) (x y : Int) : (convert 25 9 (.slice (some ⟨W.heap.size, 0, none⟩) 2 2)).run Tryd.prog (W.alloc (.cells #[.int .u8 x, .int .u8 y] 5)) = .ok (.string (strOf [x, y])) (W.alloc (.cells #[.int .u8 x, .int .u8 y] 5)) :=
  conv_str _ _ 2 2 [x, y] rfl fun j v hj => by
    have hk := World.alloc_heap_new W (.cells #[.int .u8 x, .int .u8 y] 5)
    rw [cell_of_row _ _ j _ _ (0, 0) hk, List.getElem?_toArray]
    exact hj
theorem conv_one (W : World) (x : Int) : (convert 25 9 (.slice (some ⟨W.heap.size, 0, none⟩) 1 1)).run Tryd.prog (W.alloc (.cells #[.int .u8 x] 5)) = .ok (.string (strOf [x])) (W.alloc (.cells #[.int .u8 x] 5)) :=
  conv_str _ _ 1 1 [x] rfl fun j v hj => by
    have hk := World.alloc_heap_new W (.cells #[.int .u8 x] 5)
    rw [cell_of_row _ _ j _ _ (0, 0) hk, List.getElem?_toArray]
    exact hj
end Go.Proofs.YtiejhgdjkfhmoaaDoor
