/-
  The contract of the reference's Topo: the same order as the program's. Conditions: the edges' ends are vertices; few vertices.
-/
import Derived.Test.YtjbmmagaeaphoaaDoorK6

namespace Go.Proofs.YtjbmmagaeaphoaaDoor
open Go Go.RowKit

set_option maxRecDepth 100000 in
set_option maxHeartbeats 4000000 in
theorem reftopo_any (B n m c : Nat) (A : Option Addr) (E : List (Nat × Nat)) (w : World) (hn : n ≤ 800) (hm : m ≤ 1000) (hB : B ≤ w.heap.size) (hE : Edg w B A m E) (hd : ∀ e ∈ E, e.1 < n ∧ e.2 < n) :
    Calls Tryd.prog 15 #[.int .i64 n, .slice A m c] w fun e w' => ∃ v, e = .returned (.tuple #[v, .bool (decide ((topoL (succs n E)).length = n))]) ∧ Own w' w.heap.size v (topoR (succs n E)) ∧ Below w.heap.size w w' := by
  obtain ⟨i0, hi0, hz0, hz1, hz2⟩ := info_parts info_int
  have HP := Lib.hid (rdy_pred hd)
  obtain ⟨nx, hnx⟩ : ∃ nx, succs n E = nx := ⟨_, rfl⟩
  have HN := Lib.hid (show nx.length = n by rw [← hnx, succs_len])
  rw [hnx] at HP ⊢
  have HE := Lib.hid hE
  clear hE hd hnx
  go_enter Tryd.func15, Tryd.ntmps15
  go_wp2_with fail
  go_loopw [6] (fun o wr => ∃ d : List Nat, Own wr w.heap.size o d ∧ Hid (Way nx d) ∧ Below w.heap.size w wr) (fun o _ => n - vLen o)
  case atStart => exact ⟨[], Own.nil _ _, ⟨Nat.zero_le _, rfl⟩, Below.refl _ _⟩
  case round =>
    obtain ⟨d, hown, hway, hbel⟩ := hrel
    have hNl := HN.out
    obtain ⟨oA, oc, rfl, _, _⟩ := hown.slice
    have HO := Lib.hid hown
    have hdl := hway.out.1
    rw [hNl] at hdl
    have hsz := hbel.size
    have HEr := Lib.hid (HE.out.below (hbel.mono hB))
    obtain ⟨wo, hwo⟩ : ∃ W, W = wr := ⟨_, rfl⟩
    subst hwo
    clear hown
    by_cases hlt : d.length < n
    · go_wp2_with fail
      go_loopw [7, 8] (fun F i wr => ∃ (p : Nat) (f : Int), p ≤ n ∧ F = .int .i64 f ∧ i = .int .i64 ((p : Int) - 1) ∧ Hid (Fnd nx d n p f) ∧ (-1 ≤ f ∧ f < n) ∧ wr = wo) (fun _ i _ => (intOf i + 1).toNat)
      case atStart => exact ⟨n, -1, Nat.le_refl _, rfl, by go_num, .inl ⟨rfl, fun x h1 h2 => by omega⟩, by omega, rfl⟩
      case round =>
        obtain ⟨p, f, hp, rfl, rfl, hf, hf2, rfl⟩ := hrel
        rcases Nat.eq_zero_or_pos p with hp0 | hp0
        · subst hp0
          rcases Classical.em (f = -1) with hf1 | hf1
          · subst hf1
            have HEND := Lib.hid (hway.out.stop (Fnd.none_ HN.out hf.out))
            go_wp2_with fail
            go_ret2
            refine ⟨.slice none 0 0, by rw [HEND.out, decide_eq_false (by omega)]; rfl, ?_, hbel⟩
            unfold topoR
            rw [HEND.out, HN.out, if_neg (by omega)]
            exact Own.nil _ _
          · obtain ⟨u, rfl⟩ := Int.eq_ofNat_of_zero_le (show 0 ≤ f by omega)
            have HST := Lib.hid (Fnd.some_ HN.out hf.out)
            have HWAY := Lib.hid (hway.out.step (by rw [HN.out]; exact hlt) HST.out)
            have HOA := Lib.hid (own_of_block (w' := wr.alloc (.cells #[.int .i64 (u : Int)] 3)) HO.out (fun b hb => Below.heap_alloc _ _ _ (HO.out.lt b hb).2))
            clear hf hf1
            go_wp2_with (at_builtin
                         refine wpList_append_lies _ rfl (.tmp 32) (.tmp 34) 22 rfl w.heap.size 3 i0 _ 1 8 Tryd.underlying22 hi0 hz0 hz1 hz2 rfl (by decide) (.slice oA d.length oc) d.length (d.map nv) rfl HOA.out ⟨wr.heap.size, 0, none⟩ 1 1 [.int .i64 (u : Int)] rfl rfl (fun j u hu => cell_one_new wr _ _ j u hu) (by simp [Value.oneCell']) (by decide) (by simp only [maxLen]; omega) (by omega) (by simp; omega) _ rfl ?_
                         intro g7 c7 w7 hown7 hgrow7 hat7 hlt7
                         have ho7 : Own w7 w.heap.size (.slice (some ⟨g7, 0, none⟩) (d.length + 1) c7) (d ++ [u]) := by
                           unfold Own
                           rw [List.length_append, List.map_append]
                           exact hown7
                         have HO7 := Lib.hid ho7
                         have HB7 := Lib.hid ((hbel.alloc hsz _).grown hgrow7 (by simp; omega) (fun b e => (HO.out.lt b e).1))
                         clear ho7 hown7 hgrow7 hat7)
            go_roundw
            case rel => exact ⟨d ++ [u], HO7.out, HWAY.out, HB7.out⟩
            case measure => simp only [vLen]; omega
        · obtain ⟨u, hu⟩ : ∃ u, p = u + 1 := ⟨p - 1, by omega⟩
          have hpu : (p : Int) - 1 = (u : Int) := by omega
          have HF := Lib.hid hf
          rw [hpu]
          have hun : u < n := by omega
          have HHA := Lib.hid (hasN_any oA oc u d w.heap.size wr HO.out (by omega))
          have HRE := Lib.hid (ready_any B m c u oc w.heap.size A oA E d wr HEr.out HO.out (by omega) (by omega))
          rw [← HP.out] at HRE
          have HCG := Lib.hid (show canGo nx d u = (!decide (u ∈ d) && predIn nx d u) from rfl)
          clear hf
          by_cases hud : u ∈ d
          · rw [decide_eq_true hud] at HHA HCG
            have HUD := Lib.hid hud
            clear hud
            go_wp2_with (go_at_call 27; refine HHA.out.mono ?_; rintro e w2 ⟨rfl, rfl⟩)
            go_roundw
            case rel => exact ⟨u, f, by omega, rfl, by go_num, (show Fnd nx d n u f from Fnd.skip (hu ▸ HF.out) (by rw [HCG.out]; rfl)), hf2, by first | rfl | trivial⟩
            case measure => first | (simp [intOf]; done) | (simp [intOf]; omega)
          · rw [decide_eq_false hud] at HHA HCG
            clear hud
            cases hpi : predIn nx d u with
            | false =>
              rw [hpi] at HRE HCG
              clear hpi
              go_wp2_with (first
                | (go_at_call 27; refine HHA.out.mono ?_; rintro e w2 ⟨rfl, rfl⟩)
                | (go_at_call 33; refine HRE.out.mono ?_; rintro e w2 ⟨rfl, rfl⟩))
              go_roundw
              case rel => exact ⟨u, f, by omega, rfl, by go_num, (show Fnd nx d n u f from Fnd.skip (hu ▸ HF.out) (by rw [HCG.out]; rfl)), hf2, by first | rfl | trivial⟩
              case measure => first | (simp [intOf]; done) | (simp [intOf]; omega)
            | true =>
              rw [hpi] at HRE HCG
              clear hpi
              go_wp2_with (first
                | (go_at_call 27; refine HHA.out.mono ?_; rintro e w2 ⟨rfl, rfl⟩)
                | (go_at_call 33; refine HRE.out.mono ?_; rintro e w2 ⟨rfl, rfl⟩))
              go_roundw
              case rel => exact ⟨u, (u : Int), by omega, rfl, by go_num, (show Fnd nx d n u (u : Int) from Fnd.hit hun (by rw [HCG.out]; rfl)), by omega, by first | rfl | trivial⟩
              case measure => first | (simp [intOf]; done) | (simp [intOf]; omega)
    · have hdn : d.length = n := by omega
      have HEND := Lib.hid (hway.out.done (by rw [HN.out]; exact hdn))
      go_wp2_with fail
      go_ret2
      refine ⟨.slice oA d.length oc, by rw [HEND.out, decide_eq_true hdn]; rfl, ?_, hbel⟩
      unfold topoR
      rw [HEND.out, HN.out, if_pos hdn]
      exact HO.out
end Go.Proofs.YtjbmmagaeaphoaaDoor
