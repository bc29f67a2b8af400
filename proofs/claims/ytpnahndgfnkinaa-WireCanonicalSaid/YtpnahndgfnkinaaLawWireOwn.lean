/-
  The walk of the law WireOwn: arguments are not retained and results are newly allocated. No condition beyond the arguments' readings.
-/
import Derived.Test.YtpnahndgfnkinaaWLives
import Derived.Test.YtpnahndgfnkinaaWSame
import Derived.Test.YtpnahndgfnkinaaWPure
namespace Go.Proofs.Ytpnahndgfnkinaa.LawWireOwn
open Go Go.RowKit

/-- The blocks from lo to hi lie as they lay. -/
def Mid (lo hi : Nat) (w w' : World) : Prop := ∀ k, lo ≤ k → k < hi → w'.heap[k]? = w.heap[k]?
theorem Mid.trans {lo hi : Nat} {a b c : World} (h : Mid lo hi a b) (k : Mid lo hi b c) : Mid lo hi a c := fun i h1 h2 => (k i h1 h2).trans (h i h1 h2)
theorem Mid.below {lo hi B : Nat} {w w' : World} (h : Below B w w') (hB : hi ≤ B) : Mid lo hi w w' := fun k _ h2 => h.block k (by omega)
theorem Mid.grown {lo hi p q : Nat} {w w' : World} {v : Value} (h : w.grownBy w' v.ownBlock) (hv : ∀ b, v.ownBlock = some b → p ≤ b ∧ b < q) (hs : hi ≤ w.heap.size) (hd : q ≤ lo ∨ hi ≤ p) : Mid lo hi w w' := fun k h1 h2 => h.block k (by omega) fun e => by
  have := hv k e.symm
  omega
theorem out_mid {base g : Nat} {w w' : World} {bs : List Int} (h : OutAt base w g bs) (hm : Mid base w.heap.size w w') : OutAt base w' g bs := by
  obtain ⟨A, m, c, h1, h2, h3, h4⟩ := h
  refine ⟨A, m, c, (hm g h2 h1.lt).trans h1, h2, h3, h4.1, ?_⟩
  rcases h4.2 with h5 | ⟨g', cap, cur, hv, hg, hh, r⟩
  · exact .inl h5
  · exact .inr ⟨g', cap, cur, hv, hg, (hm g' hg (heap_lt hh)).trans hh, r⟩
theorem own_mid {base n : Nat} {t : TypeId} {v : Value} {xs : List Value} {w w' : World} (h : w.ownsRow base t 1 v n xs) (hm : Mid base w.heap.size w w') : w'.ownsRow base t 1 v n xs := by
  refine ⟨h.1, ?_⟩
  rcases h.2 with h5 | ⟨g', cap, cur, hv, hg, hh, r⟩
  · exact .inl h5
  · exact .inr ⟨g', cap, cur, hv, hg, (hm g' hg (heap_lt hh)).trans hh, r⟩
theorem own_below2 {w w' : World} {base size n : Nat} {t : TypeId} {v : Value} {xs : List Value} (h : w.ownsRow base t size v n xs) (hb : Below w.heap.size w w') : w'.ownsRow base t size v n xs := by
  obtain ⟨h1, h2⟩ := h
  refine ⟨h1, ?_⟩
  rcases h2 with h2 | ⟨g, cap, cur, hv, hg, hh, r⟩
  · exact .inl h2
  · exact .inr ⟨g, cap, cur, hv, hg, (hb.block g (heap_lt hh)).trans hh, r⟩
/-- Where the row that the call owns lies; it is not frozen. -/
theorem own_at {w : World} {base n c : Nat} {t : TypeId} {A : Option Addr} {xs : List Value} (h : w.ownsRow base t 1 (.slice A n c) n xs) (i : Nat) (hi : i < n) :
    ∃ g u, A = some ⟨g, 0, none⟩ ∧ n ≤ c ∧ w.cell? ⟨g, i, none⟩ = some u ∧ w.frozen? ⟨g, i, none⟩ = false := by
  obtain ⟨h1, h2⟩ := h
  rcases h2 with ⟨_, h0⟩ | ⟨g, cap, cur, e, hg, hh, hn, _, hs, ht⟩
  · omega
  · injection e with e1 e2 e3
    subst e3
    refine ⟨g, cur[i]'(by omega), e1, hn, ?_, by simp [World.frozen?, hh]⟩
    rw [cell_of_row w g i cur t (0, 0) hh]
    exact Array.getElem?_eq_getElem (by omega)
theorem own_set {w : World} {base n c g : Nat} {t : TypeId} {xs : List Value} (h : w.ownsRow base t 1 (.slice (some ⟨g, 0, none⟩) n c) n xs) (i : Nat) (u : Value) : (w.setCell ⟨g, i, none⟩ u).ownsRow base t 1 (.slice (some ⟨g, 0, none⟩) n c) n (xs.set i u) := by
  obtain ⟨h1, h2⟩ := h
  refine ⟨by simpa using h1, ?_⟩
  rcases h2 with ⟨e, _⟩ | ⟨g', cap, cur, e, hg, hh, hn, hm, hs, ht⟩
  · injection e with e; cases e
  · injection e with e1 e2 e3
    injection e1 with e1
    injection e1 with e1
    subst e1 e3
    refine .inr ⟨g, c, cur.setIfInBounds i u, rfl, hg, ?_, hn, hm, by simpa using hs, ?_⟩
    · simp [World.setCell, Array.getElem?_modify, hh]
    · rw [Array.toList_setIfInBounds, List.take_set, ht]
theorem grown_set {w w' : World} {g n c : Nat} (h : w.grownBy w' (Value.slice (some ⟨g, 0, none⟩) n c).ownBlock) (i : Nat) (u : Value) : w.grownBy (w'.setCell ⟨g, i, none⟩ u) (Value.slice (some ⟨g, 0, none⟩) n c).ownBlock :=
  ⟨h.os, h.tape, h.output, by simpa [World.setCell] using h.size, fun k hk hne => (Below.heap_setCell _ _ _ _ (fun e => hne (by rw [e]; rfl))).trans (h.block k hk hne)⟩
theorem grown_refl (w : World) (r : Option Nat) : w.grownBy w r := ⟨rfl, rfl, rfl, Nat.le_refl _, fun _ _ _ => rfl⟩
theorem below_grown {B : Nat} {a w w' : World} {v : Value} (h : Below B a w) (hg : w.grownBy w' v.ownBlock) (hB : B ≤ w.heap.size) (hv : ∀ b, v.ownBlock = some b → B ≤ b) : Below B a w' := h.grown hg hB hv

set_option maxHeartbeats 400000 in
theorem newin_mid (A : Option Addr) (n c : Nat) (zs : List Int) (w : World) (B : Nat) (hz : Lst 5 .u8 B w A n c zs) (hn : n ≤ 1000000) (h8 : ∀ x ∈ zs, B8 x) :
    Calls Try.prog 20 #[.slice A n c] w fun e w' => ∃ g, e = .returned (.pointer (some ⟨g, 0, none⟩)) ∧ w.heap.size ≤ g ∧ (∀ w'', Mid w.heap.size w'.heap.size w' w'' → InAt w'.heap.size w'' g (.ok zs)) ∧ Below w.heap.size w w' := by
  go_enter Try.func20, Try.ntmps20
  go_wp2_with fail
  refine (clone_any _ _ _ _ zs _ hz hn).mono ?_
  rintro e w1 ⟨A', n', c', rfl, h1, h2, h3, h4⟩
  have hn' : n' ≤ 1000000 := by rw [← h1, hz.len]; exact hn
  have H1 := Lib.hid h1
  clear h1 hz
  have H8 := Lib.hid h8
  clear h8
  go_wp2_with fail
  go_ret
  have hs := h4.size
  refine ⟨w1.heap.size, rfl, hs, fun w'' hm => ⟨A', n', c', ?_, ?_, H8.out, hn'⟩, h4.alloc hs _⟩
  · exact (hm w1.heap.size hs (by simp)).trans (World.alloc_heap_new w1 _)
  · have ho : (w1.alloc (.cells #[.slice A' n' c', .int .i64 0] 73)).ownsRow w.heap.size 5 1 (.slice A' n' c') n' (zs.map (Value.int .u8)) := own_below2 h3 ((Below.refl _ _).alloc (Nat.le_refl _) _)
    have ho2 := own_mid ho hm
    obtain ⟨l1, l2, l3, l4⟩ := Lst.of_own ho2
    refine ⟨l1, l2, l3, ?_⟩
    rcases l4 with l4 | ⟨b, off, C, e, hb, hC, hj⟩
    · exact .inl l4
    · refine .inr ⟨b, off, C, e, ?_, hC, hj⟩
      have := (ho.lt b (by rw [e]; rfl)).2
      simpa using this
set_option maxRecDepth 100000 in
set_option maxHeartbeats 4000000 in
theorem walk (a0 : Option Addr) (len0 cap0 : Nat) (z0 : List Int) (a1 : Option Addr) (len1 cap1 : Nat) (z1 : List Int) (w : World) (w0 : Row .u8 w a0 len0 cap0 z0) (w1 : Row .i64 w a1 len1 cap1 z1) :
    Calls Try.prog 10 #[.slice a0 len0 cap0, .slice a1 len1 cap1] w fun e w' => e = .returned (.bool true) ∧ Below w.heap.size w w' := by
  obtain ⟨hI3, hlc3, hcm3, hwf3⟩ := w1.ints
  have hlt30 : ((z0.take len0).take 30).length ≤ 30 := List.length_take_le _ _
  have hlt10 : ((z1.take len1).take 10).length ≤ 10 := List.length_take_le _ _
  have h8 : ∀ x ∈ (z0.take len0).take 30, B8 x := fun x hx => b8_of w0.ints.2.2.2 x (List.mem_of_mem_take hx)
  have hi : ∀ x ∈ (z1.take len1).take 10, I64 x := fun x hx => i64_of hwf3 x (List.mem_of_mem_take hx)
  have HF := Lib.hid (few_any a0 len0 cap0 _ 30 (by decide) (by decide) w w0.slc)
  have HN := Lib.hid (fun u (hu : Below w.heap.size w u) => ints_any a1 len1 cap1 _ 10 (by decide) (by decide) u (w1.slc.below hu))
  have e30 : (30 : Int).toNat = 30 := rfl
  have e10 : (10 : Int).toNat = 10 := rfl
  rw [e30] at HF
  rw [e10] at HN
  obtain ⟨P, hP⟩ : ∃ P, (z0.take len0).take 30 = P := ⟨_, rfl⟩
  obtain ⟨N, hN⟩ : ∃ N, (z1.take len1).take 10 = N := ⟨_, rfl⟩
  rw [hP] at HF h8 hlt30
  rw [hN] at HN hi hlt10
  have H8 := Lib.hid h8
  have HI := Lib.hid hi
  obtain ⟨i0, hi0, hz0, hz1, hz2⟩ := info_parts info_byte
  clear h8 hi e30 e10 hP hN w0 w1 hI3 hlc3 hcm3 hwf3
  go_enter Try.func10, Try.ntmps10
  go_wp2_with fail
  refine HF.out.mono ?_
  rintro e u1 ⟨A1, n1, c1, rfl, hn1, hL1, hO1, hb1⟩
  have hn1' : n1 ≤ 30 := by omega
  have HL1 := Lib.hid hn1
  clear hn1
  go_wp2_with fail
  refine (HN.out u1 hb1).mono ?_
  rintro e u2 ⟨A2, n2, c2, rfl, hn2, hL2, hO2, hb2⟩
  have hn2' : n2 ≤ 10 := by omega
  have HL2 := Lib.hid hn2
  clear hn2
  have s1 := hb1.size
  have s2 := hb2.size
  have B2 := hb1.trans (hb2.mono s1)
  have hA := Below.alloc (Below.refl u2.heap.size u2) (Nat.le_refl _) (.cells #[.slice none 0 0] 32)
  have hO := OutAt.new u2
  have hL1a := ((hL1.below hb2).more s2).below hA
  have hL2a := hL2.below hA
  clear hL1 hL2
  go_wp2_with fail
  refine (out_bytes u2.heap.size u2.heap.size A1 n1 c1 P _ _ hO hL1a (by simp; omega)).mono ?_
  rintro e u3 ⟨rfl, h3, hb3⟩
  have hL2b := hL2a.below hb3
  have b23 := hA.trans hb3
  clear hL1a hL2a hO
  have hlenB : (encB P).length ≤ 40 := by
    have := encU_len P.length
    unfold encB
    rw [List.length_append]
    omega
  go_wp2_with fail
  refine (out_ints u2.heap.size u2.heap.size A2 n2 c2 N _ _ h3 hL2b HI.out (by simp; omega)).mono ?_
  rintro e u4 ⟨rfl, h4, hb4⟩
  have b24 := b23.trans hb4
  have hlenL : (encL N).length ≤ 110 := by
    have := encU_len N.length
    have := encI_le N
    unfold encL
    rw [List.length_append]
    omega
  have s4 := b24.size
  have B4 := B2.trans (b24.mono (by omega))
  rw [List.nil_append] at h4
  obtain ⟨BS, hBS⟩ : ∃ BS, encB P ++ encL N = BS := ⟨_, rfl⟩
  rw [hBS] at h4
  have HBS := Lib.hid hBS
  have hlBS : BS.length ≤ 150 := by rw [← hBS, List.length_append]; omega
  have HB8 := Lib.hid (show ∀ x ∈ BS, B8 x by
    intro x hx
    rw [← hBS] at hx
    unfold encB encL at hx
    simp only [List.mem_append, List.mem_flatMap] at hx
    rcases hx with (hx | hx) | (hx | ⟨y, hy, hx⟩)
    · exact encU_b8 (by omega) x hx
    · exact H8.out x hx
    · exact encU_b8 (by omega) x hx
    · exact encU_b8 (zig_w (HI.out y hy)).1 x hx)
  clear hBS h3 hL2b hlenB hlenL b23
  go_wp2_with fail
  refine (out_done _ _ _ u4 h4 (by omega)).mono ?_
  rintro e u5 ⟨A5, n5, c5, rfl, hn5, hL5, hO5, hb5⟩
  have hn5' : n5 ≤ 150 := by omega
  have HL5 := Lib.hid hn5
  have s5 := hb5.size
  have hsl5 := (hL5.below (Below.alloc (Below.refl u5.heap.size u5) (Nat.le_refl _) (.cells #[] 5))).slc
  clear hn5 hL5
  go_wp2_with (at_builtin
               refine wpList_append_slc rfl _ _ 24 rfl u5.heap.size 5 i0 _ 1 Try.underlying24 hi0 hz0 hz1 hz2 rfl _ _ _ rfl (World.ownsRow_made u5 #[] 0 (Nat.le_refl _) (by simp [maxLen]) (by simp)) .u8 _ _ _ _ rfl hsl5 (by simp only [maxLen]; omega) (by omega) (by simp) ?_
               intro A6 c6 u6 hO6 hg6)
  have b56 : Below u5.heap.size u5 u6 := ((Below.refl _ _).alloc (Nat.le_refl _) _).grown hg6 (by simp) (fun k e => by
    have e2 : some u5.heap.size = some k := e
    injection e2 with e2
    omega)
  have s6 := b56.size
  simp only [Nat.zero_add, List.nil_append] at hO6
  have B5 := B4.trans (hb5.mono (by omega))
  have B6 := B5.trans (b56.mono (by omega))
  have R1 := Lib.hid (fun b e => hO1.lt b e)
  have R2 := Lib.hid (fun b e => hO2.lt b e)
  have R5 := Lib.hid (fun b e => hO5.lt b e)
  have c16 : Below u1.heap.size u1 u6 := ((hb2.trans (b24.mono s2)).trans (hb5.mono (by omega))).trans (b56.mono (by omega))
  have c26 : Below u2.heap.size u2 u6 := (b24.trans (hb5.mono s4)).trans (b56.mono (by omega))
  have O1 := own_below2 hO1 c16
  have M46 : Mid u2.heap.size u4.heap.size u4 u6 := Mid.below (hb5.trans (b56.mono s5)) (Nat.le_refl _)
  have H4 := Lib.hid h4
  have HO1 := Lib.hid hO2
  have HO5 := Lib.hid hO5
  have HO6 := Lib.hid hO6
  have HN' := Lib.hid hb1
  clear hg6 hO1 hO2 hO5 hO6 h4 hsl5
  go_wp2_with fail
  go_loopw [10] (fun i wr => ∃ (k : Nat) (xs : List Value), k ≤ n1 ∧ i = .int .i64 k ∧ wr.ownsRow w.heap.size 5 1 (.slice A1 n1 c1) n1 xs ∧ u6.grownBy wr (Value.slice A1 n1 c1).ownBlock) (fun i _ => n1 - (intOf i).toNat)
  case atStart => exact ⟨0, _, Nat.zero_le _, rfl, O1, grown_refl _ _⟩
  case round =>
    obtain ⟨k, xs, hk, rfl, hr, hG⟩ := hrel
    by_cases hlt : k < n1
    · obtain ⟨b, u, e, hnc, hcu, hfz⟩ := own_at hr k hlt
      subst e
      go_wp2_with fail
      go_roundw
      case rel => exact ⟨k + 1, _, by omega, by go_num, own_set hr k _, grown_set hG k _⟩
      case measure => simp [intOf]; omega
    · obtain ⟨W7, hW⟩ : ∃ W, W = wr := ⟨_, rfl⟩
      subst hW
      have G7 := hG
      have S7 := hG.size
      clear hr hG
      obtain rfl : n1 = k := by omega
      clear hk hlt
      have M47 := M46.trans (Mid.grown G7 R1.out (by omega) (.inl s2))
      have M67 : Mid u5.heap.size u6.heap.size u6 W7 := Mid.grown G7 R1.out (Nat.le_refl _) (.inl (by omega))
      have O2 := own_mid (own_below2 HO1.out c26) (Mid.grown G7 R1.out (Nat.le_refl _) (.inl (Nat.le_refl _)))
      have O5 := own_mid (own_below2 HO5.out b56) (Mid.grown G7 R1.out (Nat.le_refl _) (.inl (by omega)))
      have B7 := below_grown B6 G7 (by omega) (fun b e => (R1.out b e).1)
      have hG7 := Lib.hid G7
      clear G7 O1 M46
      go_wp2_with fail
      go_loopw [11] (fun i wr => ∃ (k : Nat) (xs : List Value), k ≤ n2 ∧ i = .int .i64 k ∧ wr.ownsRow u1.heap.size 3 1 (.slice A2 n2 c2) n2 xs ∧ W7.grownBy wr (Value.slice A2 n2 c2).ownBlock) (fun i _ => n2 - (intOf i).toNat)
      case atStart => exact ⟨0, _, Nat.zero_le _, rfl, O2, grown_refl _ _⟩
      case round =>
        obtain ⟨k, xs, hk, rfl, hr, hG⟩ := hrel
        by_cases hlt : k < n2
        · obtain ⟨b, u, e, hnc, hcu, hfz⟩ := own_at hr k hlt
          subst e
          go_wp2_with fail
          go_roundw
          case rel => exact ⟨k + 1, _, by omega, by go_num, own_set hr k _, grown_set hG k _⟩
          case measure => simp [intOf]; omega
        · obtain ⟨W8, hW⟩ : ∃ W, W = wr := ⟨_, rfl⟩
          subst hW
          have G8 := hG
          have S8 := hG.size
          clear hr hG
          obtain rfl : n2 = k := by omega
          clear hk hlt
          have M48 := M47.trans (Mid.grown G8 R2.out (by omega) (.inl (Nat.le_refl _)))
          have M68 := M67.trans (Mid.grown G8 R2.out (by omega) (.inl (by omega)))
          have O5' := own_mid O5 (Mid.grown G8 R2.out (Nat.le_refl _) (.inl (by omega)))
          have B8' := below_grown B7 G8 (by omega) (fun b e => by have := (R2.out b e).1; omega)
          clear G8 O2 O5 M47 M67
          go_wp2_with fail
          go_loopw [12] (fun i wr => ∃ (k : Nat) (xs : List Value), k ≤ n5 ∧ i = .int .i64 k ∧ wr.ownsRow u4.heap.size 5 1 (.slice A5 n5 c5) n5 xs ∧ W8.grownBy wr (Value.slice A5 n5 c5).ownBlock) (fun i _ => n5 - (intOf i).toNat)
          case atStart => exact ⟨0, _, Nat.zero_le _, rfl, O5', grown_refl _ _⟩
          case round =>
            obtain ⟨k, xs, hk, rfl, hr, hG⟩ := hrel
            by_cases hlt : k < n5
            · obtain ⟨b, u, e, hnc, hcu, hfz⟩ := own_at hr k hlt
              subst e
              go_wp2_with fail
              go_roundw
              case rel => exact ⟨k + 1, _, by omega, by go_num, own_set hr k _, grown_set hG k _⟩
              case measure => simp [intOf]; omega
            · obtain ⟨W9, hW⟩ : ∃ W, W = wr := ⟨_, rfl⟩
              subst hW
              have G9 := hG
              have S9 := hG.size
              clear hr hG
              obtain rfl : n5 = k := by omega
              clear hk hlt
              have M49 := M48.trans (Mid.grown G9 R5.out (by omega) (.inr (Nat.le_refl _)))
              have M69 := M68.trans (Mid.grown G9 R5.out (by omega) (.inl (Nat.le_refl _)))
              have B9 := below_grown B8' G9 (by omega) (fun b e => by have := (R5.out b e).1; omega)
              have O6 := own_mid HO6.out M69
              have h9 := out_mid H4.out M49
              have L6 := Lst.of_own O6
              clear G9 O5' M48 M68 M49 M69
              go_wp2_with fail
              refine (out_done _ _ _ W9 h9 (by omega)).mono ?_
              rintro e u10 ⟨A10, n10, c10, rfl, hn10, hL10, -, hb10⟩
              have HL10 := Lib.hid hn10
              have hn10' : n10 ≤ 1000000 := by omega
              have L6a := L6.below hb10
              have HS := Lib.hid (sameBytes_eq A10 A6 n10 n5 c10 c6 BS u10 hL10.ints (L6a.ints.more hb10.size) hn10')
              have B10 := B9.trans (hb10.mono B9.size)
              clear hn10 L6 h9 O6
              go_wp2_with fail
              refine HS.out.mono ?_
              rintro e u11 ⟨rfl, hb11⟩
              have B11 := B10.trans (hb11.mono B10.size)
              have L6b := L6a.below (hb11.mono hb10.size)
              have s10 := hb10.size
              have s11 := hb11.size
              have hslb := (L6b.below (Below.alloc (Below.refl W9.heap.size u11) (by omega) (.cells #[] 5))).slc
              clear L6a hL10 L6b
              go_wp2_with (at_builtin
                           refine wpList_append_slc rfl _ _ 24 rfl u11.heap.size 5 i0 _ 1 Try.underlying24 hi0 hz0 hz1 hz2 rfl _ _ _ rfl (World.ownsRow_made u11 #[] 0 (Nat.le_refl _) (by simp [maxLen]) (by simp)) .u8 _ _ _ _ rfl hslb (by simp only [maxLen]; omega) (by omega) (by simp) ?_
                           intro A12 c12 u12 hO12 hg12)
              have b12 : Below u11.heap.size u11 u12 := ((Below.refl _ _).alloc (Nat.le_refl _) _).grown hg12 (by simp) (fun k e => by
                have e2 : some u11.heap.size = some k := e
                injection e2 with e2
                omega)
              have s12 := b12.size
              simp only [Nat.zero_add, List.nil_append] at hO12
              have B12 := B11.trans (b12.mono B11.size)
              have R12 := Lib.hid (fun b e => hO12.lt b e)
              clear hg12 hslb
              go_wp2_with fail
              refine (newin_mid A12 n5 c12 BS u12 _ (Lst.of_own hO12) (by omega) HB8.out).mono ?_
              rintro e u13 ⟨g, rfl, hg, hin, hb13⟩
              have B13 := B12.trans (hb13.mono B12.size)
              have s13 := hb13.size
              have O12 := own_below2 hO12 hb13
              have hg13 : g < u13.heap.size := (hin u13 (fun _ _ _ => rfl)).lt
              have HIN := Lib.hid hin
              clear hO12 hin
              go_wp2_with fail
              go_loopw [15] (fun i wr => ∃ (k : Nat) (xs : List Value), k ≤ n5 ∧ i = .int .i64 k ∧ wr.ownsRow u11.heap.size 5 1 (.slice A12 n5 c12) n5 xs ∧ u13.grownBy wr (Value.slice A12 n5 c12).ownBlock) (fun i _ => n5 - (intOf i).toNat)
              case atStart => exact ⟨0, _, Nat.zero_le _, rfl, O12, grown_refl _ _⟩
              case round =>
                obtain ⟨k, xs, hk, rfl, hr, hG⟩ := hrel
                by_cases hlt : k < n5
                · obtain ⟨b, u, e, hnc, hcu, hfz⟩ := own_at hr k hlt
                  subst e
                  go_wp2_with fail
                  go_roundw
                  case rel => exact ⟨k + 1, _, by omega, by go_num, own_set hr k _, grown_set hG k _⟩
                  case measure => simp [intOf]; omega
                · obtain ⟨W14, hW⟩ : ∃ W, W = wr := ⟨_, rfl⟩
                  subst hW
                  have G14 := hG
                  have S14 := hG.size
                  clear hr hG
                  obtain rfl : n5 = k := by omega
                  clear hk hlt
                  have hin14 := HIN.out W14 (Mid.grown G14 R12.out (Nat.le_refl _) (.inl (Nat.le_refl _)))
                  have B14 := below_grown B13 G14 (by have := B13.size; omega) (fun b e => by have := (R12.out b e).1; have := B11.size; omega)
                  have hgw : w.heap.size ≤ g := by have := B12.size; omega
                  clear G14 O12
                  go_wp2_with fail
                  refine (in_bytes g _ 30 W14 hin14 (by omega) ⟨by decide, by decide⟩).mono ?_
                  rintro e u15 ⟨⟨A15, n15, c15, rfl, hn15, hL15, hO15, hb15⟩, hin15⟩
                  have e1 : rdB 30 (.ok BS) = (P, .ok (encL N)) := by rw [← HBS.out]; exact rdB_enc 30 P _ (by omega) (by omega)
                  rw [e1] at hin15
                  have B15 := below_but B14 hb15 hgw B14.size
                  have s15 := hb15.size
                  have hn15' : n15 ≤ 30 := by rw [← hn15, e1]; exact hlt30
                  have R15 := Lib.hid (fun b e => hO15.lt b e)
                  clear e1 hn15 hL15 hin14
                  go_wp2_with fail
                  go_loopw [17] (fun i wr => ∃ (k : Nat) (xs : List Value), k ≤ n15 ∧ i = .int .i64 k ∧ wr.ownsRow W14.heap.size 5 1 (.slice A15 n15 c15) n15 xs ∧ u15.grownBy wr (Value.slice A15 n15 c15).ownBlock) (fun i _ => n15 - (intOf i).toNat)
                  case atStart => exact ⟨0, _, Nat.zero_le _, rfl, hO15, grown_refl _ _⟩
                  case round =>
                    obtain ⟨k, xs, hk, rfl, hr, hG⟩ := hrel
                    by_cases hlt : k < n15
                    · obtain ⟨b, u, e, hnc, hcu, hfz⟩ := own_at hr k hlt
                      subst e
                      go_wp2_with fail
                      go_roundw
                      case rel => exact ⟨k + 1, _, by omega, by go_num, own_set hr k _, grown_set hG k _⟩
                      case measure => simp [intOf]; omega
                    · obtain ⟨W16, hW⟩ : ∃ W, W = wr := ⟨_, rfl⟩
                      subst hW
                      have G16 := hG
                      have S16 := hG.size
                      clear hr hG
                      obtain rfl : n15 = k := by omega
                      clear hk hlt
                      have hgl := hin15.lt
                      have hgu : g < W14.heap.size := by omega
                      have hin16 := hin15.grown G16 (fun e => by have := (R15.out g e.symm).1; omega) (fun b e => .inl (by have := (R15.out b e).1; omega))
                      have B16 := below_grown B15 G16 (by have := B15.size; omega) (fun b e => by have := (R15.out b e).1; have := B14.size; omega)
                      clear G16 hO15 hin15
                      go_wp2_with fail
                      refine (in_ints g _ 10 W16 hin16 (by omega) ⟨by decide, by decide⟩).mono ?_
                      rintro e u17 ⟨⟨A17, n17, c17, rfl, hn17, hL17, -, hb17⟩, hin17⟩
                      have e2 : rdL 10 (.ok (encL N)) = (N, .ok []) := by
                        have := rdL_enc 10 N [] (by omega) (by omega) HI.out
                        rw [List.append_nil] at this
                        exact this
                      rw [e2] at hin17 hL17 hn17
                      have hn17' : n17 ≤ 10 := by rw [← hn17]; exact hlt10
                      have B17 := below_but B16 hb17 hgw B16.size
                      clear e2 hn17 hin16
                      go_wp2_with fail
                      refine (HN.out u17 B17).mono ?_
                      rintro e u18 ⟨A18, n18, c18, rfl, hn18, hL18, -, hb18⟩
                      have HS2 := Lib.hid (sameInts_eq A17 A18 n17 n18 c17 c18 N u18 ((hL17.below hb18).ints.more hb18.size) hL18.ints (by omega))
                      have B18 := B17.trans (hb18.mono B17.size)
                      have hin18 := hin17.below hb18
                      clear hn18 hL17 hL18 hin17
                      go_wp2_with fail
                      refine HS2.out.mono ?_
                      rintro e u19 ⟨rfl, hb19⟩
                      have B19 := B18.trans (hb19.mono B18.size)
                      have HE := Lib.hid (in_end g _ u19 (hin18.below hb19))
                      have HV := Lib.hid (lives_any u19)
                      clear hin18
                      go_wp2_with fail
                      refine HE.out.mono ?_
                      rintro e u20 ⟨rfl, rfl⟩
                      simp only [St.endE]
                      go_wp2_with fail
                      refine HV.out.mono ?_
                      rintro e u20 ⟨rfl, hb20⟩
                      go_wp2_with fail
                      go_ret
                      exact ⟨rfl, B19.trans (hb20.mono B19.size)⟩
end Go.Proofs.Ytpnahndgfnkinaa.LawWireOwn
