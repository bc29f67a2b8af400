/-
  slices.Clone of steps, of asks, of messages: a new row with the same elements. Condition: the length.
-/
import Derived.Test.YtlomhoohmcnniaaDoorK2
import Derived.Test.YtlomhoohmcnniaaDoorK9
import Derived.Lib.SliceRun

namespace Go.Proofs.YtlomhoohmcnniaaDoor
open Go Go.RowKit Go.Proofs
attribute [local go_sem] Oper.semAt_some

theorem info_splitD {P : Program} {t : TypeId} {z : Option Value} {s b : Nat} (h : (P.info? t).map (fun i => (i.zero, i.size, i.bytes)) = some (z, s, b)) : ∃ i, P.info? t = some i ∧ i.zero = z ∧ i.size = s ∧ i.bytes = b := by
  cases hi : P.info? t with
  | none => rw [hi] at h; cases h
  | some i =>
    rw [hi] at h
    injection h with h
    injection h with h1 h2
    injection h2 with h2 h3
    exact ⟨i, rfl, h1, h2, h3⟩
theorem ownsRow_zeroD {w : World} {e : TypeId} {size : Nat} (C : Array Value) (hC : C.size = 0) : (w.alloc (.cells C e)).ownsRow w.heap.size e size (.slice (some ⟨w.heap.size, 0, none⟩) 0 0) 0 [] := by
  refine ⟨by simp, .inr ⟨w.heap.size, 0, C, rfl, Nat.le_refl _, World.alloc_heap_new w _, Nat.le_refl _, Nat.zero_le _, by omega, by simp⟩⟩
theorem info_cloneSt : (Tryd.prog.info? 52).map (fun i => (i.zero, i.size, i.bytes)) = some (some (.agg #[.int .i64 0, .int .i64 0, .int .i64 0, .int .i64 0, .int .i64 0, .int .i64 0, .int .i64 0, .int .i64 0, .slice none 0 0, .bool false, .slice none 0 0]), 11, 120) := by kernel_rfl
set_option maxHeartbeats 2000000 in
set_option maxRecDepth 100000 in
theorem cloneSt_any {A : Option Addr} {n c : Nat} {l : List DP.St} (w : World) (h : RS.Sl stE w A n c l) (bn : n ≤ 1000000) :
    Calls Tryd.prog 49 #[.slice A n c] w fun e w' => ∃ A' c', e = .returned (.slice A' n c') ∧ w'.ownsRow w.heap.size 52 11 (.slice A' n c') n (RS.flat stE l) ∧ Below w.heap.size w w' := by
  obtain ⟨i0, hi0, hz0, hs0, hb0⟩ := info_splitD info_cloneSt
  have hlen : (RS.flat stE l).length = n * 11 := by rw [RS.flat_len, h.len]; rfl
  rcases A with _ | ad
  · obtain ⟨rfl, rfl⟩ : n = 0 ∧ c = 0 := by
      rcases h.2.2.2 with ⟨_, h0⟩ | ⟨_, h0, _⟩
      · have := h.2.1
        omega
      · cases h0
    have hl : l = [] := List.eq_nil_of_length_eq_zero h.1
    subst hl
    have he := run_eql_nil_slice (P := Tryd.prog) w 23 52 none 0 0 0 0 Tryd.underlying23
    go_enter Tryd.func49, Tryd.ntmps49
    go_wp2
    go_ret
    exact ⟨none, 0, rfl, World.ownsRow_nil _ _ _ _, Below.refl _ _⟩
  · have HS := Lib.hid (fun (V : World) (hV : Below w.heap.size w V) => (h.keep hV).src)
    have HL := Lib.hid hlen
    clear hlen h
    have he := Lib.run_eql_slice_nil (P := Tryd.prog) w 23 52 (some ad) n c 0 0 Tryd.underlying23
    go_enter Tryd.func49, Tryd.ntmps49
    go_wp2_with (at_builtin
                 refine RgX.wpList_append_any rfl _ _ 23 rfl w.heap.size 52 i0 _ 11 120 Tryd.underlying23 hi0 hz0 hs0 hb0 rfl (by decide) (.slice (some ⟨w.heap.size, 0, none⟩) 0 0) 0 [] rfl (ownsRow_zeroD _ rfl) (some ad) n c (RS.flat stE l) rfl HL.out (HS.out _ ((Below.refl _ w).alloc (Nat.le_refl _) _)) (RS.flat_ones _) (by simp only [maxLen]; omega) (by omega) (by simp) ?_
                 intro B' c' w2 hown' hgrow)
    go_ret
    rw [List.nil_append] at hown'
    simp only [Nat.zero_add] at hown' ⊢
    exact ⟨B', c', rfl, hown', ((Below.refl _ _).alloc (Nat.le_refl _) _).grown hgrow (by simp) (fun k e => by have e2 : some w.heap.size = some k := e; injection e2 with e2; omega)⟩
theorem info_cloneAsk : (Tryd.prog.info? 59).map (fun i => (i.zero, i.size, i.bytes)) = some (some (.agg #[.int .i64 0, .int .i64 0, .int .i64 0, .int .i64 0, .int .i64 0, .int .i64 0, .int .i64 0]), 7, 56) := by kernel_rfl
set_option maxHeartbeats 2000000 in
set_option maxRecDepth 100000 in
theorem cloneAsk_any {A : Option Addr} {n c : Nat} {l : List DP.Qa} (w : World) (h : RS.Sl qaE w A n c l) (bn : n ≤ 1000000) :
    Calls Tryd.prog 50 #[.slice A n c] w fun e w' => ∃ A' c', e = .returned (.slice A' n c') ∧ w'.ownsRow w.heap.size 59 7 (.slice A' n c') n (RS.flat qaE l) ∧ Below w.heap.size w w' := by
  obtain ⟨i0, hi0, hz0, hs0, hb0⟩ := info_splitD info_cloneAsk
  have hlen : (RS.flat qaE l).length = n * 7 := by rw [RS.flat_len, h.len]; rfl
  rcases A with _ | ad
  · obtain ⟨rfl, rfl⟩ : n = 0 ∧ c = 0 := by
      rcases h.2.2.2 with ⟨_, h0⟩ | ⟨_, h0, _⟩
      · have := h.2.1
        omega
      · cases h0
    have hl : l = [] := List.eq_nil_of_length_eq_zero h.1
    subst hl
    have he := run_eql_nil_slice (P := Tryd.prog) w 49 59 none 0 0 0 0 Tryd.underlying49
    go_enter Tryd.func50, Tryd.ntmps50
    go_wp2
    go_ret
    exact ⟨none, 0, rfl, World.ownsRow_nil _ _ _ _, Below.refl _ _⟩
  · have HS := Lib.hid (fun (V : World) (hV : Below w.heap.size w V) => (h.keep hV).src)
    have HL := Lib.hid hlen
    clear hlen h
    have he := Lib.run_eql_slice_nil (P := Tryd.prog) w 49 59 (some ad) n c 0 0 Tryd.underlying49
    go_enter Tryd.func50, Tryd.ntmps50
    go_wp2_with (at_builtin
                 refine RgX.wpList_append_any rfl _ _ 49 rfl w.heap.size 59 i0 _ 7 56 Tryd.underlying49 hi0 hz0 hs0 hb0 rfl (by decide) (.slice (some ⟨w.heap.size, 0, none⟩) 0 0) 0 [] rfl (ownsRow_zeroD _ rfl) (some ad) n c (RS.flat qaE l) rfl HL.out (HS.out _ ((Below.refl _ w).alloc (Nat.le_refl _) _)) (RS.flat_ones _) (by simp only [maxLen]; omega) (by omega) (by simp) ?_
                 intro B' c' w2 hown' hgrow)
    go_ret
    rw [List.nil_append] at hown'
    simp only [Nat.zero_add] at hown' ⊢
    exact ⟨B', c', rfl, hown', ((Below.refl _ _).alloc (Nat.le_refl _) _).grown hgrow (by simp) (fun k e => by have e2 : some w.heap.size = some k := e; injection e2 with e2; omega)⟩
theorem info_cloneMs : (Tryd.prog.info? 46).map (fun i => (i.zero, i.size, i.bytes)) = some (some (.agg #[.int .i64 0, .int .i64 0, .int .i64 0, .int .i64 0, .int .i64 0]), 5, 40) := by kernel_rfl
set_option maxHeartbeats 2000000 in
set_option maxRecDepth 100000 in
theorem cloneMs_any {A : Option Addr} {n c : Nat} {l : List NM.Ms} (w : World) (h : RS.Sl msE w A n c l) (bn : n ≤ 1000000) :
    Calls Tryd.prog 51 #[.slice A n c] w fun e w' => ∃ A' c', e = .returned (.slice A' n c') ∧ w'.ownsRow w.heap.size 46 5 (.slice A' n c') n (RS.flat msE l) ∧ Below w.heap.size w w' := by
  obtain ⟨i0, hi0, hz0, hs0, hb0⟩ := info_splitD info_cloneMs
  have hlen : (RS.flat msE l).length = n * 5 := by rw [RS.flat_len, h.len]; rfl
  rcases A with _ | ad
  · obtain ⟨rfl, rfl⟩ : n = 0 ∧ c = 0 := by
      rcases h.2.2.2 with ⟨_, h0⟩ | ⟨_, h0, _⟩
      · have := h.2.1
        omega
      · cases h0
    have hl : l = [] := List.eq_nil_of_length_eq_zero h.1
    subst hl
    have he := run_eql_nil_slice (P := Tryd.prog) w 50 46 none 0 0 0 0 Tryd.underlying50
    go_enter Tryd.func51, Tryd.ntmps51
    go_wp2
    go_ret
    exact ⟨none, 0, rfl, World.ownsRow_nil _ _ _ _, Below.refl _ _⟩
  · have HS := Lib.hid (fun (V : World) (hV : Below w.heap.size w V) => (h.keep hV).src)
    have HL := Lib.hid hlen
    clear hlen h
    have he := Lib.run_eql_slice_nil (P := Tryd.prog) w 50 46 (some ad) n c 0 0 Tryd.underlying50
    go_enter Tryd.func51, Tryd.ntmps51
    go_wp2_with (at_builtin
                 refine RgX.wpList_append_any rfl _ _ 50 rfl w.heap.size 46 i0 _ 5 40 Tryd.underlying50 hi0 hz0 hs0 hb0 rfl (by decide) (.slice (some ⟨w.heap.size, 0, none⟩) 0 0) 0 [] rfl (ownsRow_zeroD _ rfl) (some ad) n c (RS.flat msE l) rfl HL.out (HS.out _ ((Below.refl _ w).alloc (Nat.le_refl _) _)) (RS.flat_ones _) (by simp only [maxLen]; omega) (by omega) (by simp) ?_
                 intro B' c' w2 hown' hgrow)
    go_ret
    rw [List.nil_append] at hown'
    simp only [Nat.zero_add] at hown' ⊢
    exact ⟨B', c', rfl, hown', ((Below.refl _ _).alloc (Nat.le_refl _) _).grown hgrow (by simp) (fun k e => by have e2 : some w.heap.size = some k := e; injection e2 with e2; omega)⟩
end Go.Proofs.YtlomhoohmcnniaaDoor
