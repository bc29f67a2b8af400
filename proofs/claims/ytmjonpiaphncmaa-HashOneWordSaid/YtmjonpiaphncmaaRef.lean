/-
  The contracts of the reference model: Words, Sum, Bytes and Pair return the same words and hashes as package hash. Conditions: each slice holds integers of its kind; the lengths are such of which we speak.
-/
import Derived.Test.YtmjonpiaphncmaaHelp
namespace Go.Proofs.Ytmjonpiaphncmaa
open Go.RowKit

theorem info_word : (Try.prog.info? 25).map (fun i => (i.zero, i.size, i.bytes)) = some (some (.int .u64 0), 1, 8) := by kernel_rfl
theorem drop_step (l : List Int) (q : Nat) (h : q < l.length) : leW (l.drop q) = 256 * leW (l.drop (q + 1)) + l[q]?.getD 0 := by
  rw [List.drop_eq_getElem_cons h, List.getElem?_eq_getElem h]
  simp only [leW, Option.getD_some]
  omega
/-- The words so far, in cells. -/
def cellsW (zs : List Int) (k : Nat) : List Value := (wordsTo zs k).map (Value.int .u64)
theorem cellsW_succ (zs : List Int) (k : Nat) : cellsW zs (k + 1) = cellsW zs k ++ [Value.int .u64 (leW (grp zs k))] := by unfold cellsW; rw [wordsTo_succ, List.map_append]; rfl

theorem own_low {w : World} {base : Nat} {e : TypeId} {size : Nat} {v : Value} {n : Nat} {xs : List Value} (h : w.ownsRow base e size v n xs) {k : Nat} (hk : v.ownBlock = some k) : base ≤ k := by
  rcases Nat.lt_or_ge k base with h1 | h1
  · exact absurd hk.symm (own_ne_low h h1)
  · exact h1
theorem made_own {t : TypeId} {k : IntKind} {w w1 : World} {v : Value} {m : Nat} {zs : List Int} (h : w1.ownsRow w.heap.size t 1 v m (zs.map (Value.int k))) (hb : Below w.heap.size w w1) : Made t k w zs (.returned v) w1 :=
  made_of (m := m) (by rw [Nat.zero_add, List.nil_append]; exact h) hb

set_option maxHeartbeats 1000000 in
/-- Words makes a slice of the words of the bytes zs. -/
theorem words_any (A : Option Addr) (n c : Nat) (zs : List Int) (w : World) (hI : Ints .u8 w.heap.size w A n zs) (hb : ∀ x ∈ zs, B8 x) (hn : n ≤ 1000) :
    Calls Try.prog 23 #[.slice A n c] w (Made 25 .u64 w (wordsI zs)) := by
  obtain ⟨i0, hi, hz0, hz1, hz2⟩ := info_parts info_word
  go_enter Try.func23, Try.ntmps23
  go_wp2
  go_loopw [3, 4] (fun o i wr => ∃ j : Nat, j ≤ nwords n ∧ i = .int .i64 (8 * (j : Int)) ∧ wr.ownsRow w.heap.size 25 1 o j (cellsW zs j) ∧ Below w.heap.size w wr) (fun _ i _ => n + 8 - (intOf i).toNat)
  case atStart => exact ⟨0, Nat.zero_le _, rfl, ⟨rfl, .inl ⟨rfl, rfl⟩⟩, Below.refl _ _⟩
  case round =>
    obtain ⟨j, hj, rfl, hrow, hB⟩ := hrel
    by_cases hlt : 8 * j < n
    · obtain ⟨b, off, rfl, hbl, hcs⟩ := hI.at_ (by omega)
      have hgl := grp_length zs j
      rw [hI.len] at hgl
      obtain ⟨L, hL⟩ : ∃ L, (grp zs j).length = L := ⟨_, rfl⟩
      have hLe : L = min 8 (n - 8 * j) := hL.symm.trans hgl
      have hg8 : ∀ x ∈ grp zs j, B8 x := fun x hx => hb x (grp_mem hx)
      have hcell : ∀ q, q < L → wr.cell? ⟨b, off + (8 * j + q), none⟩ = some (.int .u8 ((grp zs j)[q]?.getD 0)) := fun q hq => by
        rw [grp_at zs j q (by omega)]
        exact (hB.cell (p := ⟨b, off + (8 * j + q), none⟩) hbl).trans (hcs _ (by omega))
      have HG := Lib.hid hg8
      have HC := Lib.hid hcell
      have HLn := Lib.hid hL
      have hL8 : L ≤ 8 := by omega
      have hL0 : 1 ≤ L := by omega
      have hLn : 8 * j + L ≤ n := by omega
      have hLx : L = 8 ∨ 8 * j + L = n := by omega
      have HLe := Lib.hid hLx
      clear hcs hgl hL hg8 hcell hI hLe hLx
      have hltI : 8 * (j : Int) < n := by omega
      by_cases h8 : 8 * (j : Int) + 8 ≤ n
      all_goals
        go_wp2
        go_loop [5, 6] (fun x k => ∃ r : Nat, r ≤ L ∧ k = .int .i64 (8 * (j : Int) + (r : Int) - 1) ∧ x = .int .u64 (leW ((grp zs j).drop r))) (fun _ k => (intOf k + 1 - 8 * (j : Int)).toNat)
        case atStart =>
          refine ⟨L, Nat.le_refl _, ?_, ?_⟩
          · have := HLe.out; congr 1; omega
          · rw [List.drop_of_length_le (by rw [HLn.out]; omega)]; rfl
        case round =>
          obtain ⟨r, hr, rfl, rfl⟩ := hrel
          cases r with
          | zero =>
            have hBz := hB.size
            have hjn : j ≤ 1000 := by unfold nwords at hj; omega
            go_wp2_with (at_builtin
                         refine wpList_append_own _ rfl _ _ 40 rfl w.heap.size 25 i0 _ 1 8 Try.underlying40 hi hz0 hz1 hz2 rfl (by decide) _ _ _ rfl (hrow.alloc _) ⟨wr.heap.size, 0, none⟩ 1 1 [.int .u64 (leW (grp zs j))] rfl rfl (cell_one_new _ _ _) (by simp [Value.oneCell']) (by simp only [maxLen]; omega) (by omega) (by simp; omega) ?_
                         intro v' w1 hown' hgrow _)
            go_roundw
            case rel => exact ⟨j + 1, by unfold nwords; omega, by go_num, by rw [cellsW_succ]; exact hown', (hB.alloc hBz _).grown hgrow (by simp; omega) (fun g hg => own_low hrow hg)⟩
            case measure => simp [intOf]; omega
          | succ q =>
            have e : (8 * (j : Int) + ((q + 1 : Nat) : Int) - 1) = 8 * (j : Int) + (q : Int) := by omega
            rw [e]
            clear e
            have hck := HC.out q (by omega)
            have HS := Lib.hid (drop_step (grp zs j) q (by rw [HLn.out]; omega))
            have hx0 := leW_nonneg ((grp zs j).drop (q + 1)) (fun x hx => HG.out x (List.mem_of_mem_drop hx))
            have hx1 := leW_lt7 ((grp zs j).drop (q + 1)) (fun x hx => HG.out x (List.mem_of_mem_drop hx)) (by rw [List.length_drop, HLn.out]; omega)
            obtain ⟨hb0, hb1⟩ := HG.out _ (getD_mem (l := grp zs j) (j := q) (by rw [HLn.out]; omega))
            obtain ⟨x, ex⟩ : ∃ x, leW ((grp zs j).drop (q + 1)) = x := ⟨_, rfl⟩
            obtain ⟨y, ey⟩ : ∃ y, (grp zs j)[q]?.getD 0 = y := ⟨_, rfl⟩
            rw [ex] at HS hx0 hx1 ⊢
            rw [ey] at HS hb0 hb1 hck
            clear ex ey
            go_wp2
            go_round
            case rel => exact ⟨q, by omega, rfl, by rw [HS.out]⟩
            case measure => simp [intOf]; omega
    · have hjn : j = nwords n := by unfold nwords at *; omega
      have HL := Lib.hid hI.len
      have hno : ¬ 8 * (j : Int) < n := by omega
      clear hI
      go_wp2
      go_ret
      exact made_own (by unfold wordsI; rw [HL.out, ← hjn]; exact hrow) hB

theorem foldW_take (s2 : Int) (l : List Int) (k : Nat) (h : k < l.length) : foldW s2 (l.take (k + 1)) = mixI (foldW s2 (l.take k)) (l[k]?.getD 0) := by
  rw [List.take_add_one, List.getElem?_eq_getElem h, foldW_append]
  rfl

/-- The bytes of a string, in a new block. -/
theorem Ints.str (s : ByteArray) (w : World) (cap : Nat) (e : TypeId) (f : Nat × Nat) : Ints .u8 (w.alloc (.cells (bytesRow s cap) e f)).heap.size (w.alloc (.cells (bytesRow s cap) e f)) (some ⟨w.heap.size, 0, none⟩) s.size (sb s) := by
  refine ⟨sb_length s, fun _ => ⟨w.heap.size, 0, rfl, by simp, fun j hj => ?_⟩⟩
  rw [Nat.zero_add, cell_new_row w _ e f j, bytesRow_cell s cap j hj]

set_option maxHeartbeats 1000000 in
theorem refsum_any (s : ByteArray) (A : Option Addr) (m c : Nat) (zs : List Int) (w : World) (hI : Ints .i64 w.heap.size w A m zs) (hs : s.size ≤ 1000) (hm : Len m) :
    Calls Try.prog 14 #[.string s, .slice A m c] w fun e w' => e = .returned (.int .u64 (sumI (sb s) zs)) ∧ Below w.heap.size w w' := by
  have hcv := fun W s => run_bytes_of_string (P := Try.prog) W 9 30 5 s Try.underlying9 Try.underlying30 Try.underlying5
  unfold Len at hm
  go_enter Try.func14, Try.ntmps14
  go_wp2_with fail
  refine (words_any _ _ _ (sb s) _ (by exact (Ints.str s w _ _ _).drew.more (Nat.le_refl _)) (sb_b8 s) hs).mono ?_
  rintro e w1 ⟨A1, c1, rfl, -, -, hown, hB1⟩
  have hI1 := Ints.of_own rfl hown
  have hB : Below w.heap.size w w1 := by
    refine (((Below.refl _ w).alloc (Nat.le_refl _) _).drew).trans (hB1.mono ?_)
    simp
  have hI2 := hI.below hB
  have hIw : ∀ x ∈ wordsI (sb s), W64 x := wordsI_w _ (sb_b8 s)
  have hwl : (wordsI (sb s)).length ≤ 1000 := by unfold wordsI; rw [wordsTo_length, sb_length]; unfold nwords; omega
  obtain ⟨W, hW⟩ : ∃ W, wordsI (sb s) = W := ⟨_, rfl⟩
  rw [hW] at hI1 hwl ⊢
  have HW := Lib.hid hW
  obtain ⟨N, hN⟩ : ∃ N, W.length = N := ⟨_, rfl⟩
  rw [hN] at hI1 hwl ⊢
  have HN := Lib.hid hN
  clear hown hB1 hI hcv hIw hW hN
  go_wp2
  go_loop [5, 7] (fun x i => ∃ k : Nat, k ≤ N ∧ i = .int .i64 k ∧ x = .int .u64 (foldW 0 (W.take k))) (fun _ i => N - (intOf i).toNat)
  case atStart => exact ⟨0, Nat.zero_le _, rfl, rfl⟩
  case round =>
    obtain ⟨k, hk, rfl, rfl⟩ := hrel
    by_cases hlt : k < N
    · obtain ⟨b, off, rfl, _, hc⟩ := hI1.at_ (by omega)
      have hck := hc k hlt
      have HS := Lib.hid (foldW_take 0 W k (by rw [HN.out]; exact hlt))
      clear hc hI1 hI2
      go_wp2_with (go_at_call 27; refine (refmix_any _ _ _).mono ?_; rintro e w' ⟨rfl, rfl⟩)
      go_round
      case rel => exact ⟨k + 1, by omega, by go_num, by rw [HS.out]⟩
      case measure => simp [intOf]; omega
    · obtain rfl : k = N := by omega
      have e : W.take k = W := List.take_of_length_le (by rw [HN.out]; omega)
      rw [e]
      clear hI1 e
      go_wp2_with (go_at_call 27; refine (refmix_any _ _ _).mono ?_; rintro e w' ⟨rfl, rfl⟩)
      have hl1 : mixI (mixI (foldW 0 W) ↑s.size) ↑m = mixI (lab1 (sb s)) m := by unfold lab1; rw [HW.out, sb_length]
      rw [hl1]
      clear hl1
      go_loop [5, 8] (fun x i => ∃ k : Nat, k ≤ m ∧ i = .int .i64 k ∧ x = .int .u64 (foldW (mixI (lab1 (sb s)) m) ((zs.map u64).take k))) (fun _ i => m - (intOf i).toNat)
      case atStart => exact ⟨0, Nat.zero_le _, rfl, rfl⟩
      case round =>
        obtain ⟨j, hj, rfl, rfl⟩ := hrel
        by_cases hlt2 : j < m
        · obtain ⟨b, off, rfl, _, hc⟩ := hI2.at_ (by omega)
          have hck := hc j hlt2
          have HS := Lib.hid (fold_step (mixI (lab1 (sb s)) m) zs j (by rw [hI2.len]; exact hlt2))
          clear hc hI2
          go_wp2_with (go_at_call 27; refine (refmix_any _ _ _).mono ?_; rintro e w' ⟨rfl, rfl⟩)
          go_round
          case rel => exact ⟨j + 1, by omega, by go_num, by rw [HS.out]⟩
          case measure => simp [intOf]; omega
        · obtain rfl : j = m := by omega
          have HL := Lib.hid hI2.len
          clear hI2
          go_wp2_with (go_at_call 27; refine (refmix_any _ _ _).mono ?_; rintro e w' ⟨rfl, rfl⟩)
          go_ret
          refine ⟨?_, hB⟩
          show Ending.returned (Value.int IntKind.u64 _) = _
          exact ret_u64 (by unfold sumI; rw [List.take_of_length_le (by rw [List.length_map, HL.out]; omega), HL.out])
end Go.Proofs.Ytmjonpiaphncmaa
