/-
  slices.Concat of slices of strings. Condition: the slices' cells hold the strings.
-/
import Derived.Test.YtligbandpmgmaaaTyGr
namespace Go.Proofs.Ytligbandpmgmaaa
open Go Go.RowKit Go.Proofs Go.Shelf
attribute [local go_sem] Oper.semAt_some

/-- A slice of strings in memory; nil without strings. -/
def Stn (hi : Nat) (W : World) (A : Option Addr) (c : Nat) (l : List ByteArray) : Prop := l.length ≤ c ∧ c ≤ maxLen ∧ ((A = none ∧ c = 0) ∨ ∃ b off, A = some ⟨b, off, none⟩ ∧ b < hi ∧ ∀ (j : Nat) (s : ByteArray), l[j]? = some s → W.cell? ⟨b, off + j, none⟩ = some (.string s))
theorem Stn.below {hi : Nat} {W W' : World} {A : Option Addr} {c : Nat} {l : List ByteArray} (h : Stn hi W A c l) (hb : Below hi W W') : Stn hi W' A c l := by
  obtain ⟨h1, h2, h3 | ⟨b, off, e, hl, hc⟩⟩ := h
  · exact ⟨h1, h2, .inl h3⟩
  · exact ⟨h1, h2, .inr ⟨b, off, e, hl, fun j s hj => (hb.cell (p := ⟨b, off + j, none⟩) hl).trans (hc j s hj)⟩⟩
theorem Stn.sts {hi : Nat} {W : World} {A : Option Addr} {c : Nat} {l : List ByteArray} (h : Stn hi W A c l) : Sts hi W A l.length l := ⟨rfl, fun hm => by
  obtain ⟨h1, h2, ⟨_, h3⟩ | ⟨b, off, e, hl, hc⟩⟩ := h
  · omega
  · refine ⟨b, off, e, hl, fun j hj => ?_⟩
    rw [hc j (l[j]'hj) (List.getElem?_eq_getElem hj), List.getElem?_eq_getElem hj]
    rfl⟩
/-- The strings of several slices. -/
def strs (L : List (Option Addr × Nat × List ByteArray)) : List ByteArray := L.flatMap fun x => x.2.2
theorem strs_snoc {L : List (Option Addr × Nat × List ByteArray)} {j : Nat} {x : Option Addr × Nat × List ByteArray} (h : L[j]? = some x) : strs (L.take (j + 1)) = strs (L.take j) ++ x.2.2 := by
  unfold strs
  rw [List.take_add_one, h, List.flatMap_append]
  simp
theorem strs_le {L : List (Option Addr × Nat × List ByteArray)} (j : Nat) : (strs (L.take j)).length ≤ (strs L).length := by
  have h : strs L = strs (L.take j) ++ strs (L.drop j) := by
    unfold strs
    rw [← List.flatMap_append, List.take_append_drop]
  rw [h, List.length_append]
  omega
set_option maxHeartbeats 4000000 in
theorem concat_any (W : World) (hi g M : Nat) (L : List (Option Addr × Nat × List ByteArray)) (hM : L.length = M) (hM2 : M ≤ 1000) (hg : g < W.heap.size) (hh : hi ≤ W.heap.size) (hL : ∀ j x, L[j]? = some x → W.cell? ⟨g, j, none⟩ = some (.slice x.1 x.2.2.length x.2.1) ∧ Stn hi W x.1 x.2.1 x.2.2) (ht : (strs L).length ≤ 100000) :
    Calls Try.prog 26 #[.slice (some ⟨g, 0, none⟩) M M] W fun e w' => ∃ A c, e = .returned (.slice A (strs L).length c) ∧ w'.ownsRow W.heap.size 9 1 (.slice A (strs L).length c) (strs L).length ((strs L).map Value.string) ∧ Below W.heap.size W w' := by
  obtain ⟨N, hN⟩ : ∃ N, (strs L).length = N := ⟨_, rfl⟩
  have HN := Lib.hid hN
  have HL := Lib.hid hL
  have HM := Lib.hid hM
  have HG := Lib.hid (fun V => grow_any N (by omega) V)
  rw [hN] at ht ⊢
  have HLE := Lib.hid (fun j => hN ▸ strs_le (L := L) j)
  clear hL hM hN
  go_enter Try.func26, Try.ntmps26
  go_wp2_with fail
  go_loopw [3, 11] (fun z i V => ∃ j : Nat, j ≤ M ∧ i = .int .i64 (j : Int) ∧ z = .int .i64 ((strs (L.take j)).length : Int) ∧ V = W) (fun _ i _ => M - (intOf i).toNat)
  case atStart => exact ⟨0, by omega, rfl, rfl, rfl⟩
  case round =>
    obtain ⟨j, hj, rfl, rfl, rfl⟩ := hrel
    by_cases hjm : j < M
    · obtain ⟨x, hx⟩ : ∃ x, L[j]? = some x := ⟨L[j]'(by rw [HM.out]; exact hjm), List.getElem?_eq_getElem (by rw [HM.out]; exact hjm)⟩
      obtain ⟨hcx, -⟩ := HL.out j x hx
      obtain ⟨A, c, l⟩ := x
      have hsn := strs_snoc hx
      have h1 := HLE.out (j + 1)
      rw [hsn, List.length_append] at h1
      have HSN := Lib.hid (show (strs (L.take (j + 1))).length = (strs (L.take j)).length + l.length by rw [hsn, List.length_append])
      obtain ⟨a, ha⟩ : ∃ a, (strs (L.take j)).length = a := ⟨_, rfl⟩
      obtain ⟨d, hd⟩ : ∃ a, l.length = a := ⟨_, rfl⟩
      simp only at hcx h1
      rw [hd] at hcx h1 HSN
      rw [ha] at h1 HSN ⊢
      clear hsn ha hd hx
      go_wp2_with fail
      go_roundw
      case rel => exact ⟨j + 1, by omega, by go_num, by rw [HSN.out]; go_num, trivial⟩
      case measure => simp [intOf]; omega
    · obtain rfl : j = M := by omega
      have HT := Lib.hid (show (strs (L.take j)).length = N by rw [List.take_of_length_le (by rw [HM.out]; exact Nat.le_refl _)]; exact HN.out)
      rw [HT.out]
      go_wp2_with (first
        | (go_at_call 31; refine (HG.out _).mono ?_; clear HG; rintro e w1 ⟨A, c, rfl, ho, hb⟩; have HO := Lib.hid ho; have HB := Lib.hid hb; clear ho hb))
      obtain ⟨wo, hwo⟩ : ∃ Z, Z = wr := ⟨_, rfl⟩
      subst hwo
      obtain ⟨M, rfl⟩ : ∃ M, M = j := ⟨_, rfl⟩
      obtain ⟨i0, hi0, hz0, hz1, hz2⟩ := info_parts info_str
      have HZ := Lib.hid (And.intro hi0 (And.intro hz0 (And.intro hz1 hz2)))
      clear hi0 hz0 hz1 hz2 HT
      go_loopw [6, 27] (fun v i V => ∃ (j : Nat) (A : Option Addr) (c : Nat), j ≤ M ∧ i = .int .i64 (j : Int) ∧ v = .slice A (strs (L.take j)).length c ∧ Hid (V.ownsRow wo.heap.size 9 1 (.slice A (strs (L.take j)).length c) (strs (L.take j)).length ((strs (L.take j)).map Value.string)) ∧ Hid (Below wo.heap.size wo V)) (fun _ i _ => M - (intOf i).toNat)
      case atStart => exact ⟨0, A, c, by omega, rfl, rfl, HO.out, HB.out⟩
      case round =>
        clear HO HB
        obtain ⟨j, A, c, hj, rfl, rfl, hO, hBl⟩ := hrel
        by_cases hjm : j < M
        · obtain ⟨x, hx⟩ : ∃ x, L[j]? = some x := ⟨L[j]'(by rw [HM.out]; exact hjm), List.getElem?_eq_getElem (by rw [HM.out]; exact hjm)⟩
          obtain ⟨hcx, hst⟩ := HL.out j x hx
          obtain ⟨A1, c1, l⟩ := x
          have hcx' := (hBl.out.cell (p := ⟨g, j, none⟩) hg).trans hcx
          have hsn := strs_snoc hx
          have h1 := HLE.out (j + 1)
          rw [hsn, List.length_append] at h1
          simp only at hcx' h1 hst hsn
          obtain ⟨X, hX⟩ : ∃ X, strs (L.take j) = X := ⟨_, rfl⟩
          rw [hX] at hO hsn h1 ⊢
          have HSN := Lib.hid hsn
          obtain ⟨a, ha⟩ : ∃ a, X.length = a := ⟨_, rfl⟩
          rw [ha] at hO h1 ⊢
          have HA := Lib.hid ha
          have hsz := hBl.out.size
          clear hsn ha hcx hx hX
          obtain ⟨hl1, hl2, ⟨rfl, rfl⟩ | ⟨b, off, rfl, hb, hcl⟩⟩ := hst
          · obtain rfl : l = [] := List.eq_nil_of_length_eq_zero (by omega)
            go_wp2_with (at_builtin; refine wpList_append_own_none rfl _ _ 33 rfl wo.heap.size 9 i0 1 Try.underlying33 HZ.out.1 (.slice A a c) a (X.map Value.string) rfl hO.out rfl ?_)
            go_roundw
            case rel => exact ⟨j + 1, A, c, by omega, by go_num, by rw [HSN.out, List.append_nil, HA.out], by rw [HSN.out, List.append_nil, HA.out]; exact hO.out, hBl.out⟩
            case measure => simp [intOf]; omega
          · have hcs : ∀ i u, (l.map Value.string)[i]? = some u → wr.cell? ((⟨b, off, none⟩ : Addr).add i) = some u := fun i u hu => by
              rw [List.getElem?_map] at hu
              obtain ⟨s, hs, rfl⟩ := Option.map_eq_some_iff.1 hu
              rw [Addr.add_lit]
              exact (hBl.out.cell (p := ⟨b, off + i, none⟩) (by show b < _; omega)).trans (hcl i s hs)
            have hoc : ∀ u ∈ l.map Value.string, u.oneCell' = true := fun u hu => by
              obtain ⟨s, _, rfl⟩ := List.mem_map.1 hu
              rfl
            have HCS := Lib.hid hcs
            have HOC := Lib.hid hoc
            obtain ⟨d, hd⟩ : ∃ d, l.length = d := ⟨_, rfl⟩
            rw [hd] at hcx' h1 hl1
            have HD := Lib.hid hd
            clear hcs hoc hcl hd
            go_wp2_with (at_builtin
                         refine wpList_append_own _ rfl _ _ 33 rfl wo.heap.size 9 i0 _ 1 16 Try.underlying33 HZ.out.1 HZ.out.2.1 HZ.out.2.2.1 HZ.out.2.2.2 rfl (by decide) (.slice A a c) a (X.map Value.string) rfl hO.out ⟨b, off, none⟩ d c1 (l.map Value.string) rfl (by rw [List.length_map, HD.out]; omega) HCS.out HOC.out (by simp only [maxLen]; omega) (by omega) hsz ?_
                         intro v' w2 hown' hgrow _
                         obtain ⟨A2, c2, rfl, _, _⟩ := own_slice hown'
                         have HO2 := Lib.hid hown'
                         have HB2 := Lib.hid (hBl.out.grown hgrow hsz (fun k e => (hO.out.lt k e).1))
                         clear hown' hgrow)
            go_roundw
            case rel => exact ⟨j + 1, A2, c2, by omega, by go_num, by rw [HSN.out, List.length_append, HA.out, HD.out], by rw [HSN.out, List.length_append, HA.out, HD.out, List.map_append]; exact HO2.out, HB2.out⟩
            case measure => simp [intOf]; omega
        · obtain rfl : j = M := by omega
          have HT := Lib.hid (show strs (L.take j) = strs L by rw [List.take_of_length_le (by rw [HM.out]; exact Nat.le_refl _)])
          rw [HT.out, HN.out] at hO ⊢
          go_wp2_with fail
          go_ret
          exact ⟨_, _, rfl, hO.out, hBl.out⟩
end Go.Proofs.Ytligbandpmgmaaa
