/-
  The reference's Tokens, told by the pure function lex. Condition: the source is of a length of which we speak.
-/
import Derived.Deep.CutRange
import Derived.Test.YtiejhgdjkfhmoaaDoorK11

namespace Go.Proofs.YtiejhgdjkfhmoaaDoor
open Go Go.RowKit Go.Proofs Go.Proofs.YtiejhgdjkfhmoaaDoor.LX

set_option maxRecDepth 100000 in
set_option maxHeartbeats 2000000 in
theorem refTokens_any (s : ByteArray) (hs : s.size ≤ 1000000000) (w : World) :
    Calls Tryd.prog 18 #[.string s] w fun e w' => ToksAre w' w.heap.size 49 e (lex (bsOf s)) ∧ Below w.heap.size w w' := by
  have HLEN := Lib.hid (bs_len s)
  have HSK0 : Hid (Calls Tryd.prog 23 #[.string s, .int .i64 0] w fun e w' => (∃ k : Nat, 0 ≤ k ∧ k ≤ s.size ∧ skip ((bsOf s).drop 0) = (bsOf s).drop k ∧ e = .returned (.int .i64 (k : Int))) ∧ w' = w) := refSkip_any s 0 (Nat.zero_le _) hs w
  have HSRT := Lib.hid (fun (k : Nat) (h1 : k ≤ s.size) h2 => lex_start s (k := k) h1 h2)
  obtain ⟨out, hout⟩ : ∃ o, lex (bsOf s) = o := ⟨_, rfl⟩
  rw [hout] at HSRT
  rw [hout]
  clear hout
  go_enter Tryd.func18, Tryd.ntmps18
  go_wp2_with (go_at_call 23
               refine HSK0.out.mono ?_
               rintro e w2 ⟨⟨k0, _, hk1, hk2, rfl⟩, hww⟩
               have hww := hww.symm
               subst hww
               have HK2 := Lib.hid hk2
               clear hk2)
  go_loopw [5, 6] (fun x y V => ∃ (ts : List Tok) (j : Nat), j ≤ s.size ∧ ts.length ≤ j ∧ y = .int .i64 (j : Int) ∧ (∃ A c, x = .slice A ts.length c) ∧ Hid (skip ((bsOf s).drop j) = (bsOf s).drop j) ∧ Hid (out = (lexF (s.size + 1) j ((bsOf s).drop j)).pre ts) ∧ Hid (TRow V w.heap.size 49 x ts) ∧ Hid (Below w.heap.size w V)) (fun _ y _ => s.size - (intOf y).toNat)
  case atStart => exact ⟨[], k0, hk1, Nat.zero_le _, rfl, ⟨none, 0, rfl⟩, (by rw [← HK2.out, skip_skip] : skip ((bsOf s).drop k0) = (bsOf s).drop k0), (by rw [pre_nil]; exact HSRT.out k0 hk1 HK2.out : out = (lexF (s.size + 1) k0 ((bsOf s).drop k0)).pre []), World.ownsRow_nil _ _ _ _, Below.refl _ _⟩
  case round =>
    obtain ⟨ts, j, hj, htl, rfl, ⟨A, c, rfl⟩, HSK, HOU, HR, HB⟩ := hrel
    clear HSRT HSK0 HK2 hk1
    by_cases hlt : j < s.size
    · have ht := refToken_any s j hlt hs wr
      cases hr : tok1 ((bsOf s).drop j) with
      | bad e =>
        have hse := step_bad s hlt HSK.out hr
        have hou := HOU.out
        rw [hse.1] at hou
        have hou : out = .err j e := hou
        have hne : ((e : Int) != 0) = true := by have := hse.2; simp; omega
        rw [hr] at ht
        simp only [rtokR] at ht
        have HT := Lib.hid ht
        have HOUT := Lib.hid hou
        clear ht hse hou hr HOU
        go_upto_region 5 with (
          go_at_call 24
          refine HT.out.mono ?_
          rintro e1 w2 ⟨rfl, hb2⟩
          obtain ⟨w3, hw3⟩ : ∃ V, w2.alloc (.cells #[.int .i64 0, .int .i64 0, .string ⟨#[]⟩, .int .i64 0] 49) = V := ⟨_, rfl⟩
          have htk : w3.heap[w2.heap.size]? = some (.cells tok0 49 (0, 0)) := by rw [← hw3]; exact World.alloc_heap_new w2 _
          obtain ⟨t0, t1, t2, t3, tf⟩ := tok_cells htk
          have f0 := tf 0
          have f1 := tf 1
          have f2 := tf 2
          have f3 := tf 3
          clear tf
          have HB3 : Hid (Below w.heap.size w w3) := by rw [← hw3]; exact (HB.out.trans (hb2.mono HB.out.size)).alloc (by have := HB.out.size; have := hb2.size; omega) _
          have HZ : Hid (w.heap.size ≤ w2.heap.size) := (by have := HB.out.size; have := hb2.size; exact Nat.le_trans (by assumption) (by assumption))
          have HTK := Lib.hid htk
          clear htk hb2)
        obtain ⟨w4, hw4⟩ : ∃ V, (((w3.setCell ⟨w2.heap.size, 0, none⟩ (.int .i64 0)).setCell ⟨w2.heap.size, 1, none⟩ (.int .i64 0)).setCell ⟨w2.heap.size, 2, none⟩ (.string ⟨#[]⟩)).setCell ⟨w2.heap.size, 3, none⟩ (.int .i64 0) = V := ⟨_, rfl⟩
        rw [hw4]
        have HB4 : Hid (Below w.heap.size w w4) := by rw [← hw4]; exact tok_below HB3.out HZ.out _ _ _ _
        clear t0 t1 t2 t3 f0 f1 f2 f3 hw4 hw3
        go_wp2
        refine bodyPost_ret (v := .tuple #[.slice none 0 0, .int .i64 (j : Int), .int .i64 (e : Int)]) (by simp [results, Tryd.results18, go_sem]) rfl ⟨?_, HB4.out⟩
        rw [HOUT.out]
        rfl
      | good k n v =>
        have hln := tok1_len hr
        rw [List.length_drop, HLEN.out] at hln
        obtain ⟨txt, htx⟩ : ∃ x, s.extract j (j + n) = x := ⟨_, rfl⟩
        have htz : txt.size = n := by rw [← htx, ByteArray.size_extract]; omega
        have hcells : tkCells ⟨k, j, ((bsOf s).drop j).take n, v⟩ = [.int .i64 (k : Int), .int .i64 (j : Int), .string txt, .int .i64 (v : Int)] := by
          rw [← htx, step_text]; rfl
        have hsg := fun (j' : Nat) h1 h2 => step_good s (j := j') hlt HSK.out hr h1 h2
        rw [hr] at ht
        simp only [rtokR] at ht
        rw [htx] at ht
        obtain ⟨tk, htk⟩ : ∃ x : Tok, ⟨k, j, ((bsOf s).drop j).take n, v⟩ = x := ⟨_, rfl⟩
        rw [htk] at hcells hsg
        have HSG : Hid (∀ j' : Nat, j' ≤ s.size → skip ((bsOf s).drop (j + txt.size)) = (bsOf s).drop j' → out = (lexF (s.size + 1) j' ((bsOf s).drop j')).pre (ts ++ [tk])) := fun j' h1 h2 => by
          rw [htz] at h2
          have := HOU.out
          rw [hsg j' h1 h2, pre_pre] at this
          exact this
        have HSK5 : Hid (∀ V : World, Calls Tryd.prog 23 #[.string s, .int .i64 ((j : Int) + (txt.size : Int))] V fun e w' => (∃ q : Nat, j + txt.size ≤ q ∧ q ≤ s.size ∧ skip ((bsOf s).drop (j + txt.size)) = (bsOf s).drop q ∧ e = .returned (.int .i64 (q : Int))) ∧ w' = V) := fun V => by
          have := refSkip_any s (j + txt.size) (by omega) hs V
          rw [Int.natCast_add] at this
          exact this
        have HN1 : Hid (1 ≤ txt.size ∧ j + txt.size ≤ s.size) := (by rw [htz]; exact ⟨hln.1, by omega⟩)
        have HT := Lib.hid ht
        have HCE := Lib.hid hcells
        clear ht hr HOU hsg htk htx htz hln hcells
        go_upto_region 5 with (
          go_at_call 24
          refine HT.out.mono ?_
          rintro e1 w2 ⟨rfl, hb2⟩
          obtain ⟨w3, hw3⟩ : ∃ V, w2.alloc (.cells #[.int .i64 0, .int .i64 0, .string ⟨#[]⟩, .int .i64 0] 49) = V := ⟨_, rfl⟩
          have htk : w3.heap[w2.heap.size]? = some (.cells tok0 49 (0, 0)) := by rw [← hw3]; exact World.alloc_heap_new w2 _
          obtain ⟨t0, t1, t2, t3, tf⟩ := tok_cells htk
          have f0 := tf 0
          have f1 := tf 1
          have f2 := tf 2
          have f3 := tf 3
          clear tf
          have HB3 : Hid (Below w.heap.size w w3) := by rw [← hw3]; exact (HB.out.trans (hb2.mono HB.out.size)).alloc (by have := HB.out.size; have := hb2.size; omega) _
          have HZ : Hid (w.heap.size ≤ w2.heap.size) := (by have := HB.out.size; have := hb2.size; exact Nat.le_trans (by assumption) (by assumption))
          have HTK := Lib.hid htk
          have HB2 := Lib.hid hb2
          clear htk hb2)
        obtain ⟨w4, hw4⟩ : ∃ V, (((w3.setCell ⟨w2.heap.size, 0, none⟩ (.int .i64 (k : Int))).setCell ⟨w2.heap.size, 1, none⟩ (.int .i64 (j : Int))).setCell ⟨w2.heap.size, 2, none⟩ (.string txt)).setCell ⟨w2.heap.size, 3, none⟩ (.int .i64 (v : Int)) = V := ⟨_, rfl⟩
        rw [hw4]
        have HB4 : Hid (Below w.heap.size w w4) := by rw [← hw4]; exact tok_below HB3.out HZ.out _ _ _ _
        have htk4 : w4.heap[w2.heap.size]? = some (.cells #[.int .i64 (k : Int), .int .i64 (j : Int), .string txt, .int .i64 (v : Int)] 49 (0, 0)) := by rw [← hw4]; exact tok_set (HTK.out : w3.heap[w2.heap.size]? = some (.cells tok0 49 (0, 0))) _ _ _ _
        have HBR : Hid (Below wr.heap.size wr w4) := by
          rw [← hw4]
          exact tok_below (by rw [← hw3]; exact HB2.out.alloc HB2.out.size _) HB2.out.size _ _ _ _
        clear t0 t1 t2 t3 f0 f1 f2 f3 hw4 hw3 HTK HB3
        obtain ⟨t0, t1, t2, t3, tf⟩ := tok_cells htk4
        have f0 := tf 0
        have f1 := tf 1
        have f2 := tf 2
        have f3 := tf 3
        clear tf
        have hn2 : j + txt.size ≤ s.size := HN1.out.2
        have HTK4 := Lib.hid htk4
        have HL4 := Lib.hid (heap_lt htk4)
        have HR4 := Lib.hid (tRow_below HR.out HBR.out)
        clear htk4
        go_wp2_with (first
          | (at_builtin
             refine wpList_append_rtok rfl (.tmp 25) (.tmp 27) rfl w.heap.size (.slice A ts.length c) ts rfl (World.ownsRow.alloc HR4.out _) ⟨w4.heap.size, 0, none⟩ 1 tk rfl (fun i u hu => by rw [HCE.out] at hu; exact World.news_of_block (World.alloc_heap_new w4 (.cells #[.int .i64 (k : Int), .int .i64 (j : Int), .string txt, .int .i64 (v : Int)] 49)) i u hu) (by omega) (by have := HB4.out.size; simp; omega) ?_
             intro A' c' w5 hown' hgr
             have HTK5 : Hid (w5.heap[w2.heap.size]? = some (.cells #[.int .i64 (k : Int), .int .i64 (j : Int), .string txt, .int .i64 (v : Int)] 49 (0, 0))) := (hgr.block _ (by have := HL4.out; simp; omega) (fun e => by have := tRow_lt HR.out _ e.symm; have := HB2.out.size; omega)).trans ((Below.heap_alloc _ _ _ HL4.out).trans HTK4.out)
             have HB5 := Lib.hid ((HB4.out.alloc HB4.out.size _).grown hgr (by have := HB4.out.size; simp; omega) (fun b e => (tRow_lt HR.out b e).1))
             clear t0 t1 t2 t3 f0 f1 f2 f3
             obtain ⟨t0, t1, t2, t3, tf⟩ := tok_cells HTK5.out
             have f0 := tf 0
             have f1 := tf 1
             have f2 := tf 2
             have f3 := tf 3
             clear tf
             have HO5 := Lib.hid hown'
             clear hown' hgr)
          | (go_at_call 23
             refine (HSK5.out _).mono ?_
             rintro e w6 ⟨⟨q, hq1, hq2, hq3, rfl⟩, hww⟩
             have hww := hww.symm
             subst hww
             have HQ3 := Lib.hid hq3
             clear hq3))
        go_roundw
        case rel => exact ⟨ts ++ [tk], q, hq2, by have := HN1.out; rw [List.length_append, List.length_singleton]; omega, rfl, ⟨A', c', by rw [List.length_append, List.length_singleton]⟩, (by rw [← HQ3.out, skip_skip] : skip ((bsOf s).drop q) = (bsOf s).drop q), HSG.out q hq2 HQ3.out, HO5.out, HB5.out⟩
        case measure => have := HN1.out; simp [intOf]; omega
    · have hje : j = s.size := by omega
      subst hje
      have HOUT : Hid (out = .ok (ts ++ [⟨0, s.size, [], 0⟩])) := by
        have := HOU.out
        rw [step_end] at this
        exact this
      clear HOU
      go_wp2_with (
        at_builtin
        refine wpList_append_rtok rfl (.tmp 36) (.tmp 40) rfl w.heap.size (.slice A ts.length c) ts rfl (World.ownsRow.alloc HR.out _) ⟨wr.heap.size, 0, none⟩ 1 ⟨0, s.size, [], 0⟩ rfl (fun i u hu => World.news_of_block (World.alloc_heap_new wr (.cells #[.int .i64 0, .int .i64 (s.size : Int), .string ⟨#[]⟩, .int .i64 0] 49)) i u hu) (by omega) (by have := HB.out.size; simp; omega) ?_
        intro A' c' w5 hown' hgr
        have HB5 := Lib.hid ((HB.out.alloc HB.out.size _).grown hgr (by have := HB.out.size; simp; omega) (fun b e => (tRow_lt HR.out b e).1))
        have HO5 := Lib.hid hown'
        clear hown' hgr)
      refine bodyPost_ret (v := .tuple #[.slice A' (ts.length + 1) c', .int .i64 0, .int .i64 0]) (by simp [results, Tryd.results18, go_sem]) rfl ?_
      rw [HOUT.out]
      exact ⟨⟨A', c', by rw [List.length_append, List.length_singleton], by rw [List.length_append, List.length_singleton]; exact HO5.out⟩, HB5.out⟩
end Go.Proofs.YtiejhgdjkfhmoaaDoor
