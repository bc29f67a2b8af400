/-
  The law's examples hold: 'lives' answers true. No condition.
-/
import Derived.Test.YtcojbloflaeefaaWEnc
import Derived.Test.YtcojbloflaeefaaSame
import Derived.Laws.IdiomStrings
import Derived.Lib.SlBytesConst
namespace Go.Proofs.Ytcojbloflaeefaa
open Go Go.RowKit

theorem liv1 : encU 300 = [172, 2] := by decide +kernel
theorem liv2 : encI (-1) = [1] := by decide +kernel
theorem liv3 : encB [97, 98] = [2, 97, 98] := by decide +kernel
theorem liv4 : rdU (.ok [172, 2, 1, 2, 97, 98]) = (300, .ok [1, 2, 97, 98]) := rfl
theorem liv5 : rdI (.ok [1, 2, 97, 98]) = (-1, .ok [2, 97, 98]) := rfl
theorem liv6 : rdB 2 (.ok [2, 97, 98]) = ([97, 98], .ok []) := rfl

/-- New bytes, as a slice. -/
theorem lst_new (t : TypeId) (k : IntKind) (w : World) (l : List Int) (C : Array Value) (hC : C = (l.map (Value.int k)).toArray) (n : Nat) (hn : l.length = n) (hm : n ≤ 1000000) :
    Lst t k (w.alloc (.cells C t)).heap.size (w.alloc (.cells C t)) (some ⟨w.heap.size, 0, none⟩) n n l := by
  refine ⟨hn, Nat.le_refl _, by simp only [maxLen]; omega, .inr ⟨w.heap.size, 0, C, rfl, by simp, World.alloc_heap_new w _, fun j hj => ?_⟩⟩
  rw [Nat.zero_add, hC, List.getElem?_toArray, List.getElem?_map, List.getElem?_eq_getElem (by omega)]
  rfl

/-- A literal's bytes: a new block with the run-time's mark. -/
theorem slc_lit (W W' : World) (g : Nat) (hW : g < W.heap.size) (hk : Kept g (W.alloc (.cells #[.int .u8 97, .int .u8 98] 5 (2, 3))) W') : Slc .u8 W' (some ⟨W.heap.size, 0, none⟩) 2 2 [97, 98] := by
  have h := hk W.heap.size _ (World.alloc_heap_new W _) (by omega) (fun C e => by injection e with _ _ e3; injection e3 with e4; omega)
  refine ⟨rfl, by decide, by simp [maxLen], .inr ⟨_, rfl, fun i u hu => ?_⟩⟩
  rw [Addr.add_lit, Nat.zero_add, cell_of_row W' W.heap.size i _ _ _ h]
  match i, hu with
  | 0, hu => exact hu
  | 1, hu => exact hu
  | i + 2, hu => simp at hu

theorem below_but {B g : Nat} {a w w' : World} (h : Below B a w) (hb : But g w w') (hg : B ≤ g) (hB : B ≤ w.heap.size) : Below B a w' :=
  h.grown hb hB fun k e => by injection e with e; omega

def strOf (ns : List Int) : ByteArray := ns.foldl (fun r n => r.push (UInt8.ofNat n.toNat)) ByteArray.empty
/-- string(b), where b holds the bytes ns. -/
theorem run_string (w : World) (B : Nat) (A : Option Addr) (n c : Nat) (ns : List Int) (hI : Ints .u8 B w A n ns) (hn : 0 < n) :
    (convert 24 9 (.slice A n c)).run Try.prog w = .ok (.string (strOf ns)) w := by
  obtain ⟨b, off, rfl, _, hc⟩ := hI.at_ hn
  rw [run_convert_bytes_string w 24 9 5 _ _ _ Try.underlying24 Try.underlying5 Try.underlying9]
  refine run_bytesToString w _ n c ns ?_
  have h := run_loadCells_list (P := Try.prog) w ⟨b, off, none⟩ (ns.map (Value.int .u8)) (fun j v hj => by
    rw [List.getElem?_map] at hj
    have hjl : j < ns.length := by
      rcases Nat.lt_or_ge j ns.length with h | h
      · exact h
      · rw [List.getElem?_eq_none h] at hj; cases hj
    rw [Addr.add_lit, hc j (by rw [← hI.len]; exact hjl), ← hj, List.getElem?_eq_getElem hjl]
    rfl)
  rw [List.length_map, hI.len] at h
  exact h

set_option maxHeartbeats 1000000 in
theorem lives_any (w : World) :
    Calls Try.prog 13 #[] w fun e w' => e = .returned (.bool true) ∧ Below w.heap.size w w' := by
  have hO := OutAt.new w
  have hA := Below.alloc (Below.refl w.heap.size w) (Nat.le_refl _) (.cells #[.slice none 0 0] 32)
  have H1 := Lib.hid (out_uint w.heap.size w.heap.size 300 _ _ hO ⟨by decide, by decide⟩ (by simp))
  have kc := fun (w : World) (C : Array Value) (n c : Nat) => Lib.run_convert_bytes_const (P := Try.prog) w 24 5 C n c Try.underlying24 Try.underlying5
  clear hO
  go_enter Try.func13, Try.ntmps13
  go_wp2_with fail
  refine H1.out.mono ?_
  rintro e w1 ⟨rfl, h1, hb1⟩
  have H2 := Lib.hid (out_int _ _ (-1) _ _ h1 ⟨by decide, by decide⟩ (by rw [liv1]; decide))
  have b1 := hA.trans hb1
  clear h1
  go_wp2_with fail
  refine H2.out.mono ?_
  rintro e w2 ⟨rfl, h2, hb2⟩
  have b2 := b1.trans hb2
  have hgl : w.heap.size < w2.heap.size := by obtain ⟨A, m, c, hv, _⟩ := h2; exact hv.lt
  rw [liv1, liv2] at h2
  have hbl := (Below.refl w2.heap.size w2).alloc (Nat.le_refl _) (.cells #[.int .u8 97, .int .u8 98] 5 (2, 3))
  have H3 := Lib.hid (out_bytes_k w.heap.size w.heap.size _ 2 2 [97, 98] _ _ (h2.below hbl) (fun W _ hk => slc_lit w2 W _ hgl hk) rfl (by decide))
  have b3 := b2.trans (hbl.mono b2.size)
  clear h2
  go_wp2_with fail
  refine H3.out.mono ?_
  rintro e w3 ⟨rfl, h3, hb3⟩
  have b4 := b3.trans hb3
  rw [liv3] at h3
  have H4 := Lib.hid (out_done _ _ _ w3 h3 (by decide))
  clear h3 kc
  go_wp2_with fail
  refine H4.out.mono ?_
  rintro e w4 ⟨A, n, c, rfl, hn, hL, -, hb4⟩
  obtain rfl : n = 6 := hn.symm
  have b5 := b4.trans (hb4.mono b4.size)
  have H5 := Lib.hid (newin_any A 6 c _ w4 _ hL (by decide) (by intro x hx; simp at hx; unfold B8; omega))
  clear hn
  go_wp2_with fail
  refine H5.out.mono ?_
  rintro e w5 ⟨g, rfl, hg, h5, hb5⟩
  have b6 := b5.trans (hb5.mono b5.size)
  have hL5 := hL.below hb5
  clear hL
  go_wp2_with fail
  refine (in_uint g _ w5 h5).mono ?_
  rintro e w6 ⟨rfl, h6, hb6⟩
  have h6' : InAt w5.heap.size w6 g (.ok [1, 2, 97, 98]) := h6
  have e6 : (rdU (.ok ([] ++ [172, 2] ++ [1] ++ [2, 97, 98]))).1 = 300 := rfl
  rw [e6]
  clear e6 h6
  have b7 := below_but b6 hb6 (by have := b5.size; omega) b6.size
  have hL6 := hL5.below (below_but (Below.refl _ w5) hb6 hg hb5.size)
  clear hL5
  go_wp2_with fail
  refine (in_int g _ w6 h6').mono ?_
  rintro e w7 ⟨rfl, h7, hb7⟩
  have h7' : InAt w5.heap.size w7 g (.ok [2, 97, 98]) := h7
  have e7 : (rdI (.ok [1, 2, 97, 98])).1 = -1 := rfl
  rw [e7]
  clear e7 h7 h6'
  have b8 := below_but b7 hb7 (by have := b5.size; omega) b7.size
  have hs6 := hb6.size
  have hL7 := hL6.below (below_but (Below.refl _ w6) hb7 hg (by have := hb5.size; omega))
  clear hL6
  go_wp2_with fail
  refine (in_bytes g _ 2 w7 h7' (by have := hb7.size; omega) ⟨by decide, by decide⟩).mono ?_
  rintro e w8 ⟨⟨A8, n8, c8, rfl, hn8, hL8, -, hb8⟩, h8⟩
  have hn8' : [97, 98].length = n8 := hn8
  obtain rfl : n8 = 2 := hn8'.symm
  have h8' : InAt w5.heap.size w8 g (.ok []) := h8
  have hL8' : Lst 5 .u8 w8.heap.size w8 A8 2 c8 [97, 98] := hL8
  have b9 := below_but b8 hb8 (by have := b5.size; omega) b8.size
  have hs7 := hb7.size
  have hL9 := hL7.below (below_but (Below.refl _ w7) hb8 hg (by have := hb5.size; omega))
  have hs8 := hb8.size
  have hI9 := hL9.ints.more (B' := w8.heap.size) (by have := hb5.size; omega)
  have hI9l := (lst_new 5 .u8 w8 [172, 2, 1, 2, 97, 98] #[.int .u8 172, .int .u8 2, .int .u8 1, .int .u8 2, .int .u8 97, .int .u8 98] rfl 6 rfl (by decide)).ints
  have hbn := (Below.refl w8.heap.size w8).alloc (Nat.le_refl _) (.cells #[.int .u8 172, .int .u8 2, .int .u8 1, .int .u8 2, .int .u8 97, .int .u8 98] 5)
  have HS := Lib.hid (sameBytes_any A (some ⟨w8.heap.size, 0, none⟩) 6 6 c 6 _ _ _ ((hI9.below hbn).more (by simp)) hI9l (by decide))
  have b10 := b9.trans (hbn.mono b9.size)
  clear hn8 hn8' h8 hL8 hL9 hL7 h7'
  go_wp2_with fail
  refine HS.out.mono ?_
  rintro e w9 ⟨rfl, hb9⟩
  have hd : decide (([] ++ [172, 2] ++ [1] ++ [2, 97, 98] : List Int) = [172, 2, 1, 2, 97, 98]) = true := by decide
  rw [hd]
  have b11 := b10.trans (hb9.mono b10.size)
  have h9 : InAt w5.heap.size w9 g (.ok []) := (h8'.below hbn).below hb9
  have hst := run_string w9 _ A8 2 c8 _ ((hL8'.below hbn).ints.below (hb9.mono (by simp))) (by decide)
  have hso : strOf [97, 98] = { data := #[97, 98] } := rfl
  rw [hso] at hst
  have HE := Lib.hid (in_end g _ w9 h9)
  clear hd hso hI9 hI9l h8' hL8' h9
  go_wp2_with fail
  refine HE.out.mono ?_
  rintro e w10 ⟨rfl, rfl⟩
  go_wp2_with fail
  go_ret
  exact ⟨rfl, b11⟩
end Go.Proofs.Ytcojbloflaeefaa
