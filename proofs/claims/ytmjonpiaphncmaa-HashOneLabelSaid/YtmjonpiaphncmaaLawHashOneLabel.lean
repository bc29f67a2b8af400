/-
  The walk of the law HashOneLabel: changing one byte of the label changes the sum just where the byte changes. No condition beyond the arguments' readings.
-/
import Derived.Test.YtmjonpiaphncmaaRefB
import Derived.Test.YtmjonpiaphncmaaMathB
import Derived.Deep.RegionHeld3
namespace Go.Proofs.Ytmjonpiaphncmaa.LawHashOneLabel
open Go.RowKit

/-- The string of the bytes ns. -/
def strOf (ns : List Int) : ByteArray := ns.foldl (fun r n => r.push (UInt8.ofNat n.toNat)) ByteArray.empty
theorem sb_push (r : ByteArray) (x : UInt8) : sb (r.push x) = sb r ++ [(x.toNat : Int)] := by
  unfold sb
  rw [ByteArray.data_push, Array.toList_push, List.map_append]
  rfl
theorem sb_foldl (ns : List Int) : ∀ r : ByteArray, (∀ x ∈ ns, B8 x) → sb (ns.foldl (fun r n => r.push (UInt8.ofNat n.toNat)) r) = sb r ++ ns := by
  induction ns with
  | nil => intro r _; simp
  | cons n ns ih =>
    intro r h
    obtain ⟨h0, h1⟩ := h n (by simp)
    rw [List.foldl_cons, ih _ (fun x hx => h x (by simp [hx])), sb_push]
    have e : ((UInt8.ofNat n.toNat).toNat : Int) = n := by
      rw [UInt8.toNat_ofNat']
      omega
    rw [e, List.append_assoc]
    rfl
theorem sb_strOf (ns : List Int) (h : ∀ x ∈ ns, B8 x) : sb (strOf ns) = ns := by
  unfold strOf
  rw [sb_foldl ns _ h]
  rfl
theorem strOf_size (ns : List Int) (h : ∀ x ∈ ns, B8 x) : (strOf ns).size = ns.length := by rw [← sb_length, sb_strOf ns h]

/-- string(b), where b holds the bytes ns. -/
theorem run_string (w : World) (B : Nat) (A : Option Addr) (n c : Nat) (ns : List Int) (hI : Ints .u8 B w A n ns) (hn : 0 < n) :
    (convert 30 9 (.slice A n c)).run Try.prog w = .ok (.string (strOf ns)) w := by
  obtain ⟨b, off, rfl, _, hc⟩ := hI.at_ hn
  rw [run_convert_bytes_string w 30 9 5 _ _ _ Try.underlying30 Try.underlying5 Try.underlying9]
  refine run_bytesToString w _ n c ns ?_
  have h := run_loadCells_list (P := Try.prog) w ⟨b, off, none⟩ (ns.map (Value.int .u8)) (fun j v hj => by
    rw [List.getElem?_map] at hj
    have hjl : j < ns.length := by
      rcases Nat.lt_or_ge j ns.length with h | h
      · exact h
      · rw [List.getElem?_eq_none h] at hj; cases hj
    rw [Addr.add_lit, hc j (by rw [← hI.len]; exact hjl), ← hj, List.getElem?_eq_getElem hjl]
    rfl)
  rw [List.length_map, hI.len] at h
  exact h

theorem ints_slc {k : IntKind} {B : Nat} {w : World} {A : Option Addr} {n c : Nat} {zs : List Int} (h : Ints k B w A n zs) (hn : 0 < n) (hc : n ≤ c) (hm : c ≤ maxLen) : Slc k w A n c zs := by
  refine ⟨h.1, hc, hm, .inr ?_⟩
  obtain ⟨b, off, e, _, hcell⟩ := h.at_ hn
  refine ⟨_, e, fun i u hu => ?_⟩
  rw [List.getElem?_map] at hu
  have hi : i < zs.length := by
    rcases Nat.lt_or_ge i zs.length with h | h
    · exact h
    · rw [List.getElem?_eq_none h] at hu; cases hu
  rw [Addr.add_lit, hcell i (by rw [← h.1]; exact hi), ← hu, List.getElem?_eq_getElem hi]
  rfl
theorem xor_b8 (x y : Int) : B8 (bits .xor .u8 x y) := by
  unfold bits B8
  rw [IntKind.wrap_u8]
  constructor <;> omega
theorem set_b8 {l : List Int} (h : ∀ x ∈ l, B8 x) (k : Nat) {v : Int} (hv : B8 v) : ∀ x ∈ l.set k v, B8 x := fun x hx => by
  rcases List.mem_or_eq_of_mem_set hx with hx | rfl
  · exact h x hx
  · exact hv
theorem xor_self (x y : Int) (hx : B8 x) (hy : B8 y) : x = bits .xor .u8 x y ↔ y = 0 := by
  obtain ⟨x0, x1⟩ := hx
  obtain ⟨y0, y1⟩ := hy
  obtain ⟨x, rfl⟩ := Int.eq_ofNat_of_zero_le x0
  obtain ⟨y, rfl⟩ := Int.eq_ofNat_of_zero_le y0
  have hxy : x ^^^ y < 256 := by
    have := @Nat.xor_lt_two_pow x y 8 (by simp; omega) (by simp; omega)
    simpa using this
  have e : bits .xor .u8 (x : Int) (y : Int) = ((x ^^^ y : Nat) : Int) := by
    have h1 : (BitVec.ofInt 8 (x : Int)).toNat = x := by
      rw [BitVec.ofInt_natCast, BitVec.toNat_ofNat]; exact Nat.mod_eq_of_lt (by omega)
    have h2 : (BitVec.ofInt 8 (y : Int)).toNat = y := by
      rw [BitVec.ofInt_natCast, BitVec.toNat_ofNat]; exact Nat.mod_eq_of_lt (by omega)
    show IntKind.u8.wrap (((BitVec.ofInt 8 (x : Int)) ^^^ (BitVec.ofInt 8 (y : Int))).toNat : Int) = _
    rw [BitVec.toNat_xor, h1, h2, IntKind.wrap_u8]
    omega
  rw [e]
  constructor
  · intro h
    have h1 : x = x ^^^ y := by omega
    have h2 : x ^^^ y = x ^^^ 0 := by rw [← h1, Nat.xor_zero]
    have := xor_inj x y 0 h2
    omega
  · intro h
    have : y = 0 := by omega
    subst this
    rw [Nat.xor_zero]
theorem label_eq (l a : List Int) (k : Nat) (y : Int) (hl : Len l.length) (hn : a.length ≤ 1000) (ha : ∀ z ∈ a, B8 z) (hk : k < a.length) (hy : B8 y) :
    (sumI a l == sumI (a.set k (bits .xor .u8 (a[k]?.getD 0) y)) l) = (y == 0) := by
  have hx : B8 (a[k]?.getD 0) := ha _ (getD_mem hk)
  rw [Bool.eq_iff_iff, beq_iff_eq, beq_iff_eq, ← xor_self _ y hx hy]
  constructor
  · intro h
    have h1 := one_label l a (a.set k (bits .xor .u8 (a[k]?.getD 0) y)) (k / 8) hl hn (List.length_set) ha (set_b8 ha k (xor_b8 _ _)) (by unfold nwords; omega)
      (fun p hp => by rw [List.getElem?_set_ne (by rintro rfl; exact hp rfl)]) h
    have h2 := congrArg (fun m : List Int => m[k]?.getD 0) h1
    simp only [List.getElem?_set_self hk, Option.getD_some] at h2
    exact h2
  · intro h
    rw [← h]
    have : a.set k (a[k]?.getD 0) = a := by
      apply List.ext_getElem?
      intro i
      rw [List.getElem?_set]
      split
      · rename_i e
        subst e
        rw [List.getElem?_eq_getElem hk]
        rfl
      · rfl
    rw [this]

set_option maxHeartbeats 4000000 in
theorem walk (a0 : ByteArray) (a1 : Option Addr) (len1 cap1 : Nat) (z1 : List Int) (a2 a3 : Int) (w : World) (_ : a0.size ≤ maxLen) (w1 : Row .i64 w a1 len1 cap1 z1) (w2 : (Lit.int .i64 a2).wf = true) (w3 : (Lit.int .u8 a3).wf = true) :
    Calls Try.prog 7 #[.string a0, .slice a1 len1 cap1, .int .i64 a2, .int .u8 a3] w fun e w' => e = .returned (.bool true) ∧ Below w.heap.size w w' := by
  obtain ⟨l, -, hl, cI⟩ := ints_got _ _ _ _ 6 (by decide) (by decide) _ w1.slc
  have cS := fun u => short_any a0 29 (by decide) (by decide) u
  obtain ⟨s, es⟩ : ∃ s : ByteArray, s = a0.extract 0 (29 : Int).toNat := ⟨_, rfl⟩
  have hs : s.size ≤ 29 := by rw [es, ByteArray.size_extract]; simp; omega
  rw [← es] at cS
  have i2 : I64 a2 := by have := bounds_i64 w2; unfold I64; omega
  have i3 : B8 a3 := by have := bounds_u8 w3; unfold B8; omega
  have hS := Lib.hid cS
  have hI := Lib.hid cI
  have hcv := fun W s => run_bytes_of_string (P := Try.prog) W 9 30 5 s Try.underlying9 Try.underlying30 Try.underlying5
  clear w1 w2 w3 cS cI es
  go_enter Try.func7, Try.ntmps7
  go_wp2_with fail
  refine hI.out.mono ?_
  rintro e u1 ⟨A, n, c, rfl, hn, -, hJ, -, hb1⟩
  have hn1 : n ≤ 1000 := by omega
  clear hn hl
  go_wp2_with fail
  refine (hS.out _).mono ?_
  rintro e w0 ⟨rfl, rfl⟩
  go_wp2_with fail
  have hts : (s ++ { data := #[120] }).size = s.size + 1 := by rw [ByteArray.size_append]; rfl
  obtain ⟨t, et⟩ : ∃ t : ByteArray, s ++ { data := #[120] } = t := ⟨_, rfl⟩
  rw [et] at hts ⊢
  obtain ⟨N, eN⟩ : ∃ N, s.size + 1 = N := ⟨_, rfl⟩
  rw [eN] at hts ⊢
  have hN0 : 1 ≤ N := by omega
  have hN1 : N ≤ 30 := by omega
  obtain ⟨C, eC, hC, hCm⟩ : ∃ C, grownCap u1 N 0 5 = C ∧ N ≤ C ∧ C ≤ maxLen := ⟨_, rfl, grownCap_ge _ _ _ _, grownCap_le_maxLen _ _ _ _ (by simp only [maxLen]; omega)⟩
  rw [eC]
  have hJt := (Ints.str t u1 C 5 ((bytesRow t C).size, (bytesRow t C).size + 1)).drew
  rw [hts] at hJt
  have hb2 : Below u1.heap.size u1 (u1.alloc (Obj.cells (bytesRow t C) 5 ((bytesRow t C).size, (bytesRow t C).size + 1))).drew := ((Below.refl _ u1).alloc (Nat.le_refl _) _).drew
  have hz2 : (u1.alloc (Obj.cells (bytesRow t C) 5 ((bytesRow t C).size, (bytesRow t C).size + 1))).drew.heap.size = u1.heap.size + 1 := by simp [World.drew]
  obtain ⟨u2, eu2⟩ : ∃ u2, (u1.alloc (Obj.cells (bytesRow t C) 5 ((bytesRow t C).size, (bytesRow t C).size + 1))).drew = u2 := ⟨_, rfl⟩
  have hJt2 := hJt.more (B' := (u1.alloc (Obj.cells (bytesRow t C) 5 ((bytesRow t C).size, (bytesRow t C).size + 1))).drew.heap.size) (Nat.le_refl _)
  rw [eu2] at hJt2 hb2 hz2 ⊢
  clear hJt
  obtain ⟨a, ea⟩ : ∃ a, sb t = a := ⟨_, rfl⟩
  have h8a : ∀ x ∈ a, B8 x := by rw [← ea]; exact sb_b8 t
  rw [ea] at hJt2
  have H8a := Lib.hid h8a
  have HL := Lib.hid hJt2.len
  have b2 := hb1.trans (hb2.mono hb1.size)
  have hJ2 := (hJ.below hb2).more hb2.size
  have cC := (few_any _ _ _ _ 30 (by decide) (by decide) u2 (ints_slc hJt2 (by omega) hC hCm)).mono fun _ _ h => h.got
  rw [List.take_of_length_le (by rw [HL.out]; simp; omega)] at cC
  have HC := Lib.hid cC
  clear cC et eN eC eu2 ea h8a hJ hcv
  refine HC.out.mono ?_
  rintro e u3 ⟨A3, n3, c3, rfl, hn3, -, hJ3, hown3, hb3⟩
  obtain rfl : N = n3 := HL.out.symm.trans hn3
  have b3 := b2.trans (hb3.mono b2.size)
  have hJa := hJt2.below hb3
  have hJw := (hJ2.below hb3)
  obtain ⟨g3, rfl, hg3, hg3', hnc3, hfz⟩ := own_at hown3 (by omega)
  clear hJt2 hJ2 hown3 hn3 HC hb2
  go_wp2_with fail
  refine (around_any a2 _ i2 (by omega) (by omega) _).mono ?_
  rintro e u4 ⟨rfl, rfl⟩
  obtain ⟨hk0, hk1⟩ := around_in a2 (N : Int) (by omega)
  obtain ⟨k, ek⟩ := Int.eq_ofNat_of_zero_le hk0
  rw [ek] at hk1 ⊢
  have hkn : k < N := by omega
  have c3k : u3.cell? ⟨g3, k, none⟩ = some (.int .u8 (a[k]?.getD 0)) := by
    obtain ⟨b, off, e, _, hc⟩ := hJ3.at_ (by omega)
    injection e with e
    injection e with e1 e2
    subst e1 e2
    have := hc k hkn
    rw [Nat.zero_add] at this
    exact this
  have f3k := hfz k
  have f1 := label_eq l a k a3 (by rw [hJw.len]; exact len_small hn1) (by rw [HL.out]; omega) H8a.out (by rw [HL.out]; exact hkn) i3
  obtain ⟨x, ex⟩ : ∃ x, a[k]?.getD 0 = x := ⟨_, rfl⟩
  rw [ex] at c3k f1
  have F1 := Lib.hid f1
  have H := Lib.hid (And.intro hJa (And.intro hJ3 (And.intro hb3 hJw)))
  clear hk0 ek ex hJa hJ3 hb3 hJw hfz f1
  go_wp2_with fail
  obtain ⟨hJa, hJ3, hb3, hJw⟩ := H.out
  have hz3 := hb3.size
  have hz4 : (u3.setCell ⟨g3, k, none⟩ (Value.int .u8 (bits .xor .u8 x a3))).heap.size = u3.heap.size := by simp [World.setCell]
  have hb4 : Below w.heap.size w (u3.setCell ⟨g3, k, none⟩ (Value.int .u8 (bits .xor .u8 x a3))) := b3.setCell (p := ⟨g3, k, none⟩) (Nat.le_trans b2.size hg3) _
  have hJa4 := (hJa.setCell (p := ⟨g3, k, none⟩) hg3 (Value.int .u8 (bits .xor .u8 x a3))).more (B' := u3.heap.size) hz3
  have hJw4 := (hJw.setCell (p := ⟨g3, k, none⟩) hg3 (Value.int .u8 (bits .xor .u8 x a3))).more (B' := u3.heap.size) hz3
  have hJb4 := hJ3.set k hkn (bits .xor .u8 x a3)
  rw [Nat.zero_add] at hJb4
  have h8y : ∀ z ∈ a.set k (bits .xor .u8 x a3), B8 z := set_b8 H8a.out k (xor_b8 _ _)
  obtain ⟨y, hy⟩ : ∃ y, a.set k (bits .xor .u8 x a3) = y := ⟨_, rfl⟩
  have f1 := F1.out
  rw [hy] at hJb4 h8y f1
  obtain ⟨W4, hW4⟩ : ∃ W4, u3.setCell ⟨g3, k, none⟩ (Value.int .u8 (bits .xor .u8 x a3)) = W4 := ⟨_, rfl⟩
  rw [hW4] at hz4 hb4 hJa4 hJb4 hJw4 ⊢
  rw [← hz4] at hJa4 hJb4 hJw4
  have hsa : Len (strOf a).size := by rw [strOf_size a H8a.out, HL.out]; exact len_small (by omega)
  have hsy : Len (strOf y).size := by rw [strOf_size y h8y, hJb4.len]; exact len_small (by omega)
  have CA := Lib.hid (show ∀ W, Below W4.heap.size W4 W → Calls Try.prog 13 #[.string (strOf a), .slice A n c] W fun e w' => e = .returned (.int .u64 (sumI a l)) ∧ Below W4.heap.size W4 w' from
    fun W hW => by
      have h := (sum_any (strOf a) _ _ c l W ((hJw4.below hW).more hW.size) hsa (len_small hn1)).mono (fun _ _ ⟨he, hb⟩ => ⟨he, hW.trans (hb.mono hW.size)⟩ : ∀ e w', _ → (e = .returned (.int .u64 (sumI (sb (strOf a)) l)) ∧ Below W4.heap.size W4 w'))
      rw [sb_strOf a H8a.out] at h
      exact h)
  have CB := Lib.hid (show ∀ W, Below W4.heap.size W4 W → Calls Try.prog 13 #[.string (strOf y), .slice A n c] W fun e w' => e = .returned (.int .u64 (sumI y l)) ∧ Below W4.heap.size W4 w' from
    fun W hW => by
      have h := (sum_any (strOf y) _ _ c l W ((hJw4.below hW).more hW.size) hsy (len_small hn1)).mono (fun _ _ ⟨he, hb⟩ => ⟨he, hW.trans (hb.mono hW.size)⟩ : ∀ e w', _ → (e = .returned (.int .u64 (sumI (sb (strOf y)) l)) ∧ Below W4.heap.size W4 w'))
      rw [sb_strOf y h8y] at h
      exact h)
  have CL := Lib.hid (show ∀ W, Below W4.heap.size W4 W → Calls Try.prog 15 #[] W fun e w' => e = .returned (.bool true) ∧ Below W4.heap.size W4 w' from
    fun W hW => (lives_any W).mono fun _ _ ⟨he, hb⟩ => ⟨he, hW.trans (hb.mono hW.size)⟩)
  have VA : ∀ W, Below W4.heap.size W4 W → (convert 30 9 (.slice (some ⟨u1.heap.size, 0, none⟩) N C)).run Try.prog W = .ok (.string (strOf a)) W := fun W hW => run_string W _ _ _ _ a (hJa4.below hW) (by omega)
  have VB : ∀ W, Below W4.heap.size W4 W → (convert 30 9 (.slice (some ⟨g3, 0, none⟩) N c3)).run Try.prog W = .ok (.string (strOf y)) W := fun W hW => run_string W _ _ _ _ y (hJb4.below hW) (by omega)
  have HVA := Lib.hid VA
  have HVB := Lib.hid VB
  obtain ⟨sa, esa⟩ : ∃ sa, strOf a = sa := ⟨_, rfl⟩
  obtain ⟨sy, esy⟩ : ∃ sy, strOf y = sy := ⟨_, rfl⟩
  obtain ⟨p, hp⟩ : ∃ p, sumI a l = p := ⟨_, rfl⟩
  obtain ⟨q, hq⟩ : ∃ q, sumI y l = q := ⟨_, rfl⟩
  rw [esa] at CA HVA
  rw [esy] at CB HVB
  rw [hp] at CA f1
  rw [hq] at CB f1
  obtain ⟨B, hB⟩ : ∃ B, (a3 == 0) = B := ⟨_, rfl⟩
  rw [hB] at f1
  have B0 : Below W4.heap.size W4 W4 := Below.refl _ _
  have Hb4 := Lib.hid hb4
  clear hW4 hy hp hq H hJa hJ3 hb3 hJw hJa4 hJb4 hJw4 b3 b2 hg3 hg3' hb4 VA VB esa esy h8y F1 c3k f3k hsa hsy hz4
  go_region_held3 (fun w' => (convert 30 9 (.slice (some ⟨u1.heap.size, 0, none⟩) N C)).run Try.prog w' = .ok (.string sa) w' ∧ (convert 30 9 (.slice (some ⟨g3, 0, none⟩) N c3)).run Try.prog w' = .ok (.string sy) w')
    (first | exact ⟨HVA.out _ B0, HVB.out _ B0⟩ | exact ⟨HVA.out _ B0.drew, HVB.out _ B0.drew⟩ | exact ⟨HVA.out _ B5, HVB.out _ B5⟩ | exact ⟨HVA.out _ B6, HVB.out _ B6⟩ | exact ⟨HVA.out _ B7, HVB.out _ B7⟩)
    (first
      | (go_at_call 13; ((with_reducible refine (CA.out _ ?_).mono ?_); focus (first | exact B0.drew | exact B0)); rintro e w5 ⟨rfl, B5⟩)
      | (go_at_call 13; ((with_reducible refine (CB.out _ ?_).mono ?_); focus (exact B5)); rintro e w6 ⟨rfl, B6⟩)
      | (go_at_call 15; ((with_reducible refine (CL.out _ ?_).mono ?_); focus (exact B6)); rintro e w7 ⟨rfl, B7⟩))
  go_wp2
  go_ret
  exact ⟨rfl, Hb4.out.trans (B7.mono Hb4.out.size)⟩
end Go.Proofs.Ytmjonpiaphncmaa.LawHashOneLabel
