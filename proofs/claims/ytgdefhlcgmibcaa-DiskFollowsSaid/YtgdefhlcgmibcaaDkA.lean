/-
  The package's has and after. No condition but the lengths.
-/
import Derived.Test.YtgdefhlcgmibcaaDkB
namespace Go.Proofs.Ytgdefhlcgmibcaa
open Go Go.RowKit Go.Proofs
attribute [local go_sem] Oper.semAt_some

set_option maxHeartbeats 1000000 in
theorem has_any (A : Option Addr) (n c : Nat) (a : Int) (w : World) : Calls Try.prog 37 #[.slice A n c, .int .i64 a] w fun e w' => e = .returned (.bool (decide (0 ≤ a ∧ a < (n : Int)))) ∧ w = w' := by
  obtain ⟨b, hb⟩ : ∃ b, decide (0 ≤ a ∧ a < (n : Int)) = b := ⟨_, rfl⟩
  rw [hb]
  by_cases h0 : 0 ≤ a
  · by_cases h1 : a < (n : Int)
    · have H := Lib.hid (show true = b by rw [← hb, decide_eq_true (show 0 ≤ a ∧ a < (n : Int) from ⟨h0, h1⟩)])
      have d0 : decide (0 ≤ a) = true := decide_eq_true h0
      have d1 : decide (a < (n : Int)) = true := decide_eq_true h1
      clear hb
      go_enter Try.func37, Try.ntmps37
      go_wp2_with fail
      go_ret
      exact ⟨by rw [← H.out]; rfl, rfl⟩
    · have H := Lib.hid (show false = b by rw [← hb, decide_eq_false (show ¬ (0 ≤ a ∧ a < (n : Int)) from fun h => h1 h.2)])
      have d0 : decide (0 ≤ a) = true := decide_eq_true h0
      have d1 : decide (a < (n : Int)) = false := decide_eq_false h1
      clear hb
      go_enter Try.func37, Try.ntmps37
      go_wp2_with fail
      go_ret
      exact ⟨by rw [← H.out]; rfl, rfl⟩
  · have H := Lib.hid (show false = b by rw [← hb, decide_eq_false (show ¬ (0 ≤ a ∧ a < (n : Int)) from fun h => h0 h.1)])
    have d0 : decide (0 ≤ a) = false := decide_eq_false h0
    clear hb
    go_enter Try.func37, Try.ntmps37
    go_wp2_with fail
    go_ret
    exact ⟨by rw [← H.out]; rfl, rfl⟩
theorem app_step {xs : List Int} {ws : List DK.Wr} {k : Nat} {x : DK.Wr} (hx : ws[k]? = some x) : DK.app xs (ws.take (k + 1)) = DK.app1 (DK.app xs (ws.take k)) x := by
  rw [List.take_add_one, hx]
  exact DK.app_snoc _ _ _
theorem app1_in {cs : List Int} {j : Nat} {v : Int} (h : j < cs.length) : DK.app1 cs ((j : Int), v) = cs.set j v := by
  unfold DK.app1
  rw [if_pos ⟨by show (0 : Int) ≤ (j : Int); omega, by show (j : Int) < _; omega⟩]
  rfl
theorem app1_out {cs : List Int} {a v : Int} (h : ¬ (0 ≤ a ∧ a < (cs.length : Int))) : DK.app1 cs (a, v) = cs := by
  unfold DK.app1
  exact if_neg h
set_option maxHeartbeats 4000000 in
set_option maxRecDepth 100000 in
theorem after_any {lo lo' n c m q : Nat} {A W : Option Addr} {xs : List Int} {ws : List DK.Wr} (w : World) (hx : Cls lo w A n c xs) (hw : Wrs lo' w W m q ws) (bn : n ≤ 1000) (bm : m ≤ 1000) :
    Calls Try.prog 35 #[.slice A n c, .slice W m q] w fun e w' => (∃ g, e = .returned (.slice (some ⟨g, 0, none⟩) n n) ∧ w.heap.size ≤ g ∧ w'.heap[g]? = some (.cells (DK.intsC (DK.app xs ws)).toArray 3 (0, 0))) ∧ Below w.heap.size w w' := by
  have hmk := dk_make_ints n (by omega)
  obtain ⟨U, hU⟩ : ∃ U, w.alloc (.cells (Array.replicate n (.int .i64 0)) 3) = U := ⟨_, rfl⟩
  have hb : Below w.heap.size w U := hU ▸ dk_box w _
  have hn := hx.len
  have hm := hw.len
  have hs := Rw.copySrc (hx.keep hb) n
  have hl : ((DK.intsC xs).take n).length = Nat.min n n * 1 := by rw [List.length_take, DK.intsC_len]; show _ = min n n * 1; omega
  have kU : U.heap[w.heap.size]? = some (.cells (Array.replicate n (.int .i64 0)) 3 (0, 0)) := by rw [← hU]; exact dk_new_at rfl
  have HW := Lib.hid hw
  have HN := Lib.hid (And.intro hn hm)
  have HB := Lib.hid hb
  have hC : (DK.intsC xs).toArray = (((Array.replicate n (Value.int .i64 0)).toList.take 0 ++ (DK.intsC xs).take n ++ (Array.replicate n (Value.int .i64 0)).toList.drop (0 + ((DK.intsC xs).take n).length)).toArray) := by
    have e : (DK.intsC xs).take n = DK.intsC xs := List.take_of_length_le (by rw [DK.intsC_len]; omega)
    rw [e, DK.intsC_len, hn]
    simp
  have hf : 0 + ((DK.intsC xs).take n).length ≤ (Array.replicate n (Value.int .i64 0)).size := by rw [hl]; show 0 + min n n * 1 ≤ _; simp
  have HX := Lib.hid (And.intro hs (And.intro hl (And.intro kU (And.intro hC hf))))
  clear hx hw hn hm hb hs hl kU hC hf
  go_enter Try.func35, Try.ntmps35
  go_wp2_with (refine wpList_copy_any rfl _ _ _ _ rfl 3 1 Try.underlying22 dk_sz_int w.heap.size 0 n n A n c rfl rfl _ 3 HX.out.2.2.1 ((DK.intsC xs).take n) HX.out.2.1 HX.out.1 HX.out.2.2.2.2 (fun u hu => DK.intsC_one xs u (List.mem_of_mem_take hu)) _ HX.out.2.2.2.1 ?_; intro V1 kg ho hz hb1)
  have HB1 := Lib.hid (show Below w.heap.size w V1 from HB.out.trans hb1)
  have HG := Lib.hid kg
  have hz1 : w.heap.size < V1.heap.size := by rw [hz, ← hU]; simp
  clear kg ho hz hb1 HX hU
  go_loopw [16] (fun i V => ∃ k : Nat, k ≤ m ∧ i = .int .i64 (k : Int) ∧ Hid (V.heap[w.heap.size]? = some (.cells (DK.intsC (DK.app xs (ws.take k))).toArray 3 (0, 0))) ∧ Hid (Below w.heap.size w V)) (fun i _ => m - (intOf i).toNat)
  case atStart => exact ⟨0, by omega, rfl, HG.out, HB1.out⟩
  case round =>
    obtain ⟨k, hk, rfl, HK, HV⟩ := hrel
    by_cases hin : k < m
    · have dk : decide (k < m) = true := decide_eq_true hin
      obtain ⟨g, off, a, v, rfl, hlo, hg, hxk, c0, c1⟩ := HW.out.at_ hin
      have c0' := (HV.out.cell (p := ⟨g, off + k * 2, none⟩) hg).trans c0
      have c1' := (HV.out.cell (p := ⟨g, off + k * 2 + 1, none⟩) hg).trans c1
      have HL := Lib.hid (show (DK.app xs (ws.take k)).length = n by rw [DK.app_len]; exact HN.out.1)
      have HXK := Lib.hid (app_step (xs := xs) hxk)
      clear c0 c1 hxk hlo
      obtain ⟨Z, hZ⟩ : ∃ Z, wr.alloc (.cells #[.int .i64 a, .int .i64 v] 46) = Z := ⟨_, rfl⟩
      have hbZ : Below wr.heap.size wr Z := hZ ▸ dk_box wr _
      have hsZ : Z.heap.size = wr.heap.size + 1 := by rw [← hZ]; simp
      obtain ⟨z0, z1⟩ := dk_two (show Z.heap[wr.heap.size]? = some (.cells #[.int .i64 a, .int .i64 v] 46 (0, 0)) by rw [← hZ]; exact dk_new_at rfl)
      have hgr := blk_lt HK.out
      have HZ := Lib.hid (And.intro ((hbZ.block _ hgr).trans HK.out) (And.intro (HV.out.trans (hbZ.mono HV.out.size)) hsZ))
      clear hbZ hsZ
      by_cases hr : 0 ≤ a ∧ a < (n : Int)
      · have HH := Lib.hid (fun V => show Calls Try.prog 37 #[.slice (some ⟨w.heap.size, 0, none⟩) n n, .int .i64 a] V fun e w' => e = .returned (.bool true) ∧ V = w' from by rw [← decide_eq_true hr]; exact has_any _ _ _ _ _)
        obtain ⟨j, rfl⟩ := Int.eq_ofNat_of_zero_le hr.1
        have hj : j < n := by omega
        have HJ := Lib.hid (show j < (DK.app xs (ws.take k)).length by rw [HL.out]; exact hj)
        have hj2 : ((j : Nat) : Int) < (n : Int) := hr.2
        have HS := Lib.hid (And.intro (show j + (Value.int .i64 v).cells.size ≤ (DK.intsC (DK.app xs (ws.take k))).toArray.size by show j + 1 ≤ _; rw [List.size_toArray, DK.intsC_len]; exact HJ.out) (show (Value.int .i64 v).cells.all (·.oneCell') = true by simp [Value.cells, Value.oneCell']))
        clear hr
        go_wp2_with (first | (go_at_call 37; refine (HH.out _).mono ?_; rintro e w2 ⟨rfl, rfl⟩) | (refine RgX.wpList_store_seg rfl 3 _ _ rfl w.heap.size j (.int .i64 v) rfl rfl 3 _ HZ.out.1 dk_sz_int HS.out.1 HS.out.2 _ (DK.intsC_set _ j v HJ.out).symm ?_; intro Z2 kz2 ho2 hz2 hb2))
        go_roundw
        case rel => exact ⟨k + 1, by omega, by go_num, show _ = _ by rw [HXK.out, app1_in HJ.out]; exact kz2, HZ.out.2.1.trans (hb2.mono (Nat.le_refl _))⟩
        case measure => simp [intOf]; omega
      · have HH := Lib.hid (fun V => show Calls Try.prog 37 #[.slice (some ⟨w.heap.size, 0, none⟩) n n, .int .i64 a] V fun e w' => e = .returned (.bool false) ∧ V = w' from by rw [← decide_eq_false hr]; exact has_any _ _ _ _ _)
        have HR := Lib.hid (show DK.app1 (DK.app xs (ws.take k)) (a, v) = DK.app xs (ws.take k) from app1_out (by rw [HL.out]; exact hr))
        clear hr
        go_wp2_with (go_at_call 37; refine (HH.out _).mono ?_; rintro e w2 ⟨rfl, rfl⟩)
        go_roundw
        case rel => exact ⟨k + 1, by omega, by go_num, show _ = _ by rw [HXK.out, HR.out]; exact HZ.out.1, HZ.out.2.1⟩
        case measure => simp [intOf]; omega
    · obtain rfl : k = m := by omega
      have dk : decide (k < k) = false := decide_eq_false hin
      go_wp2_with fail
      go_ret
      exact ⟨⟨_, rfl, Nat.le_refl _, by rw [← List.take_of_length_le (Nat.le_of_eq HN.out.2)]; exact HK.out⟩, HV.out⟩
end Go.Proofs.Ytgdefhlcgmibcaa
