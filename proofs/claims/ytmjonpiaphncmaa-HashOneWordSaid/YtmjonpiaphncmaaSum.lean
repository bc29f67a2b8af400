/-
  hash.Sum returns the hash of a label and a list of integers, and writes nothing that was there. Conditions: the slice holds integers; the lengths are such of which we speak.
-/
import Derived.Test.YtmjonpiaphncmaaIter
import Derived.Laws.IdiomStrings
namespace Go.Proofs.Ytmjonpiaphncmaa
open Go.RowKit Go.Shelf
attribute [local go_sem] Oper.semAt_some

/-- A string's bytes as integers. -/
def sb (s : ByteArray) : List Int := s.data.toList.map fun b => (b.toNat : Int)
theorem sb_length (s : ByteArray) : (sb s).length = s.size := by unfold sb; rw [List.length_map, Array.length_toList]; rfl
theorem sb_b8 (s : ByteArray) : ∀ x ∈ sb s, B8 x := by
  intro x hx
  obtain ⟨b, _, rfl⟩ := List.mem_map.1 hx
  have := b.toNat_lt
  constructor <;> omega
theorem bytesRow_cell (s : ByteArray) (cap j : Nat) (h : j < s.size) : (bytesRow s cap)[j]? = some (.int .u8 ((sb s)[j]?.getD 0)) := by
  have h' : j < s.data.size := h
  unfold bytesRow sb
  rw [Array.getElem?_append_left (by simpa using h'), Array.getElem?_map, List.getElem?_map, Array.getElem?_toList, Array.getElem?_eq_getElem h']
  rfl
theorem cell_new_row (w : World) (C : Array Value) (e : TypeId) (f : Nat × Nat) (j : Nat) : (w.alloc (.cells C e f)).cell? ⟨w.heap.size, j, none⟩ = C[j]? := by
  unfold World.cell?
  rw [World.alloc_heap_new w (.cells C e f)]
  rfl

theorem fold_step (s2 : Int) (zs : List Int) (k : Nat) (h : k < zs.length) : foldW s2 ((zs.map u64).take (k + 1)) = mixI (foldW s2 ((zs.map u64).take k)) (IntKind.u64.wrap (zs[k]?.getD 0)) := by
  have e : zs.take (k + 1) = zs.take k ++ [zs[k]?.getD 0] := by rw [List.take_add_one, List.getElem?_eq_getElem h]; rfl
  rw [← List.map_take, ← List.map_take, e, List.map_append, foldW_append]
  rfl

set_option maxRecDepth 100000 in
set_option maxHeartbeats 2000000 in
theorem sum_in (n : Nat) (hn : 3 ≤ n) (s : ByteArray) (A : Option Addr) (m c : Nat) (zs : List Int) (w : World) (hI : Ints .i64 w.heap.size w A m zs) (hs : Len s.size) (hm : Len m) :
    CallsIn Fence.wide n Try.prog 13 #[.string s, .slice A m c] w fun e w' => e = .returned (.int .u64 (sumI (sb s) zs)) ∧ Below w.heap.size w w' := by
  have h1 : 1 ≤ n := by omega
  have hsl := hs
  unfold Len at hs hm
  have hcv := fun W s => run_bytes_of_string (P := Try.prog) W 9 30 5 s Try.underlying9 Try.underlying30 Try.underlying5
  refine callsIn_of_wp_marks Try.func13 rfl trivial ?_ rfl
  simp only [Try.ntmps13, List.size_toArray, List.length_cons, List.length_nil, Nat.reduceAdd, Nat.reduceSub, Array.replicate_succ, Array.replicate_zero, List.push_toArray, List.append_toArray, List.nil_append, List.cons_append]
  gi_wp2_with (refine ⟨trivial, ?_⟩; gi_at_call 25; refine (callsIn_wide.2 (wordsOf_any _ _ _ _)).mono ?_; rintro e w' ⟨rfl, rfl⟩)
  obtain ⟨cap0, hcap0, hle⟩ : ∃ c0, grownCap (w.alloc (Obj.cells #[Value.int IntKind.u64 0] 25)) s.size 0 5 = c0 ∧ s.size ≤ c0 := ⟨_, rfl, grownCap_ge _ _ _ _⟩
  rw [hcap0]
  clear hcap0 hcv
  obtain ⟨fz, hfz⟩ : ∃ f : Nat × Nat, ((bytesRow s cap0).size, (bytesRow s cap0).size + 1) = f := ⟨_, rfl⟩
  rw [hfz]
  clear hfz
  have bS : Boxed ((w.alloc (Obj.cells #[Value.int IntKind.u64 0] 25)).alloc (Obj.cells (bytesRow s cap0) 5 fz)) w.heap.size 25 (.int .u64 0) := (Boxed.new w 25 (.int .u64 0)).alloc _
  have bN := Boxed.new ((w.alloc (Obj.cells #[Value.int IntKind.u64 0] 25)).alloc (Obj.cells (bytesRow s cap0) 5 fz)) 30 (Value.slice (some ⟨w.heap.size + 1, 0, none⟩) s.size cap0)
  rw [World.size_alloc, World.size_alloc] at bN
  have hdat : ∀ j, j < s.size → ((w.alloc (Obj.cells #[Value.int IntKind.u64 0] 25)).alloc (Obj.cells (bytesRow s cap0) 5 fz)).cell? ⟨w.heap.size + 1, j, none⟩ = some (.int .u8 ((sb s)[j]?.getD 0)) := fun j hj => by
    have := cell_new_row (w.alloc (Obj.cells #[Value.int IntKind.u64 0] 25)) (bytesRow s cap0) 5 fz j
    rw [World.size_alloc] at this
    rw [this, bytesRow_cell s cap0 j hj]
  obtain ⟨W0, hW0⟩ : ∃ W0, ((((w.alloc (Obj.cells #[Value.int IntKind.u64 0] 25)).alloc (Obj.cells (bytesRow s cap0) 5 fz))).alloc (Obj.cells #[Value.slice (some ⟨w.heap.size + 1, 0, none⟩) s.size cap0] 30)).drew = W0 := ⟨_, rfl⟩
  have hB0 : Below w.heap.size w W0 := by
    rw [← hW0]
    exact ((((Below.refl _ w).alloc (Nat.le_refl _) _).alloc (by simp) _).alloc (by simp; omega) _).drew
  have hsz : W0.heap.size = w.heap.size + 3 := by rw [← hW0]; simp [World.drew]
  have cS : W0.cell? ⟨w.heap.size, 0, none⟩ = some (.int .u64 0) := by rw [← hW0]; exact (bS.alloc _).cell
  have fS : W0.frozen? ⟨w.heap.size, 0, none⟩ = false := by rw [← hW0]; exact (bS.alloc _).frozen
  have cN : W0.cell? ⟨w.heap.size + 2, 0, none⟩ = some (.slice (some ⟨w.heap.size + 1, 0, none⟩) s.size cap0) := by rw [← hW0]; exact bN.cell
  have cD : ∀ j, j < s.size → W0.cell? ⟨w.heap.size + 1, j, none⟩ = some (.int .u8 ((sb s)[j]?.getD 0)) := fun j hj => by
    rw [← hW0, ← hdat j hj]
    exact World.cell?_alloc_lt _ _ _ (by simp)
  rw [hW0]
  clear hW0 bS bN hdat
  have hI0 := hI
  refine wpIn_rangeFunc_ownG rfl h1 (gf := 28) (lb := #[.pointer (some ⟨w.heap.size + 1 + 1, 0, none⟩)]) rfl trivial (enters_of Try.func28 (by kernel_rfl) rfl)
    (words_stops (n - 1) (by omega) (w.heap.size + 2) (fun k => k = w.heap.size + 1 ∨ k = w.heap.size + 2) (some ⟨w.heap.size + 1, 0, none⟩) s.size cap0 (sb s) (.inr rfl) hle hsl (sb_length s) (sb_b8 s) W0 (by omega) cN
      (fun _ => ⟨w.heap.size + 1, 0, rfl, .inl rfl, by omega, fun j hj => by rw [Nat.zero_add]; exact cD j hj⟩))
    (fun h k => Keeps.trans h k) (fun W l o o' hl h _ _ => Keeps.putObj (m := W0.heap.size) (by rintro k (rfl | rfl) <;> omega) W l o o' hl h) (Below.refl _ _) (fun _ => rfl)
    (fun pre W => (W.cell? ⟨w.heap.size, 0, none⟩ = some (.int .u64 (foldW 0 pre)) ∧ W.frozen? ⟨w.heap.size, 0, none⟩ = false) ∧ Below w.heap.size w W)
    (fun _ _ _ => False)
    (OwnFrom.and (Own.from (fun s A B row hs hg hr => ⟨cell_kept hs.1 hg hr, (frozen_kept hs.1 hg hr).trans hs.2⟩) _) (ownFrom_below (Nat.le_refl _) (by omega)))
    (fun _ _ _ _ _ hs _ _ => hs)
    ⟨⟨cS, fS⟩, hB0⟩
    (fun x => { tmps := #[.string s, .slice A m c, undef, undef, .int .u64 0, .pointer (some ⟨w.heap.size, 0, none⟩), .int .u64 x, undef, undef, .string s, .slice (some ⟨w.heap.size + 1, 0, none⟩) s.size cap0, .func (.func 28) #[] #[.pointer (some ⟨w.heap.size + 1 + 1, 0, none⟩)], .int .u64 x, undef, undef, undef, undef, undef, undef, undef, undef, undef, undef, undef, undef, undef, undef, undef, undef, undef, undef, undef, undef, undef, undef, undef, undef, undef, undef], defers := [] }) ?assign ?body ?done ?stop
  case assign =>
    intro l x W K hK
    gi_wp2
    exact hK
  case body =>
    rintro l pre x W ⟨⟨hc, hf⟩, hB⟩ _
    have hn2 : 1 ≤ n - 1 - 1 := by omega
    clear hI hI0 cS fS cN cD hB0
    gi_wp2_with (refine ⟨trivial, ?_⟩; gi_at_call 26; refine (CallsIn.inRound l (callsIn_wide.2 (mix_any _ _ _))).mono ?_; rintro e w' ⟨rfl, rfl⟩)
    exact ⟨(KeepsOthers.setCell _ _ _).from _, (Keeps.refl _ _).setCell (by omega) _, ⟨by rw [foldW_snoc]; exact World.cell?_setCell_same' _ _ _ (by rw [hc]; rfl), by rw [World.frozen?_setCell]; exact hf⟩, hB.setCell (p := ⟨w.heap.size, 0, none⟩) (Nat.le_refl _) _⟩
  case done =>
    rintro D ys W hD rfl ⟨⟨hc, hf⟩, hB⟩ hK
    have hD3 : w.heap.size + 3 ≤ D := by omega
    clear hD hsz cS fS cN cD hB0 hI0
    gi_wp2_with (refine ⟨trivial, ?_⟩; gi_at_call 26; refine (callsIn_wide.2 (mix_any _ _ _)).mono ?_; rintro e w' ⟨rfl, rfl⟩)
    have c2 : ((W.setCell ⟨w.heap.size, 0, none⟩ (Value.int IntKind.u64 (mixI (foldW 0 (wordsI (sb s))) ↑s.size))).setCell ⟨w.heap.size, 0, none⟩ (Value.int IntKind.u64 (mixI (mixI (foldW 0 (wordsI (sb s))) ↑s.size) ↑m))).cell? ⟨w.heap.size, 0, none⟩ =
        some (.int .u64 (foldW (mixI (lab1 (sb s)) m) ((zs.map u64).take 0))) := by
      have e : foldW (mixI (lab1 (sb s)) m) ((zs.map u64).take 0) = mixI (mixI (foldW 0 (wordsI (sb s))) ↑s.size) ↑m := by unfold lab1; rw [sb_length]; rfl
      rw [e]
      exact World.cell?_setCell_same' _ _ _ (by rw [World.cell?_setCell_same' _ _ _ (by rw [hc]; rfl)]; rfl)
    have hB2 := (hB.setCell (p := ⟨w.heap.size, 0, none⟩) (Nat.le_refl _) (Value.int IntKind.u64 (mixI (foldW 0 (wordsI (sb s))) ↑s.size))).setCell (p := ⟨w.heap.size, 0, none⟩) (Nat.le_refl _) (Value.int IntKind.u64 (mixI (mixI (foldW 0 (wordsI (sb s))) ↑s.size) ↑m))
    have hK2 := (((KeepsOthers.setCell W ⟨w.heap.size, 0, none⟩ (Value.int IntKind.u64 (mixI (foldW 0 (wordsI (sb s))) ↑s.size)))).trans (KeepsOthers.setCell _ ⟨w.heap.size, 0, none⟩ (Value.int IntKind.u64 (mixI (mixI (foldW 0 (wordsI (sb s))) ↑s.size) ↑m)))).same D _ hK rfl
    gi_loopw [28] (fun i wr => ∃ k : Nat, k ≤ m ∧ i = .int .i64 k ∧ wr.cell? ⟨w.heap.size, 0, none⟩ = some (.int .u64 (foldW (mixI (lab1 (sb s)) m) ((zs.map u64).take k))) ∧ wr.frozen? ⟨w.heap.size, 0, none⟩ = false ∧ Below w.heap.size w wr ∧ wr.heap[D]? = some (.deferred (some [])))
      (fun i _ => m - (intOf i).toNat)
    case atStart => exact ⟨0, Nat.zero_le _, rfl, c2, by rw [World.frozen?_setCell, World.frozen?_setCell]; exact hf, hB2, hK2⟩
    case round =>
      obtain ⟨k, hk, rfl, hc3, hf3, hB3, hK3⟩ := hrel
      clear c2 hB2 hK2 hc hf hB hK
      by_cases hlt : k < m
      · obtain ⟨b, off, rfl, hbl, hcs⟩ := hI.at_ (by omega)
        have hck : wr.cell? ⟨b, off + k, none⟩ = some (.int .i64 (zs[k]?.getD 0)) := (hB3.cell (p := ⟨b, off + k, none⟩) hbl).trans (hcs k hlt)
        have HS := Lib.hid (fold_step (mixI (lab1 (sb s)) m) zs k (by rw [hI.len]; exact hlt))
        have HK := Lib.hid hK3
        clear hI hcs hK3
        gi_wp2_with (refine ⟨trivial, ?_⟩; gi_at_call 26; refine (callsIn_wide.2 (mix_any _ _ _)).mono ?_; rintro e w' ⟨rfl, rfl⟩)
        go_roundw
        case rel => exact ⟨k + 1, by omega, by go_num, by rw [HS.out]; exact World.cell?_setCell_same' _ _ _ (by rw [hc3]; rfl), by rw [World.frozen?_setCell]; exact hf3, hB3.setCell (p := ⟨w.heap.size, 0, none⟩) (Nat.le_refl _) _, (KeepsOthers.setCell _ _ _).same D _ HK.out rfl⟩
        case measure => simp [intOf]; omega
      · obtain rfl : k = m := by omega
        have HK := Lib.hid hK3
        clear hK3
        gi_wp2_with (refine ⟨trivial, ?_⟩; gi_at_call 26; refine (callsIn_wide.2 (mix_any _ _ _)).mono ?_; rintro e w' ⟨rfl, rfl⟩)
        refine ⟨by simp, .inl ⟨_, _, rfl, run_takeDeferred HK.out, ?_⟩⟩
        refine ⟨_, results_tmp rfl _ _ _, ?_, hB3.trans (belowK_b (w := w) (Nat.le_refl _) wr D _ _ (by omega) HK.out rfl rfl)⟩
        show Ending.returned (Value.int IntKind.u64 _) = _
        exact ret_u64 (by unfold sumI; rw [List.take_of_length_le (by rw [List.length_map, hI.len]; omega), hI.len])
  case stop =>
    rintro D c pre W _ _ h _
    exact h.elim

/-- **hash.Sum.** -/
theorem sum_any (s : ByteArray) (A : Option Addr) (m c : Nat) (zs : List Int) (w : World) (hI : Ints .i64 w.heap.size w A m zs) (hs : Len s.size) (hm : Len m) :
    Calls Try.prog 13 #[.string s, .slice A m c] w fun e w' => e = .returned (.int .u64 (sumI (sb s) zs)) ∧ Below w.heap.size w w' :=
  (callsIn_wide (n := 3)).1 (sum_in 3 (by omega) s A m c zs w hI hs hm)
end Go.Proofs.Ytmjonpiaphncmaa
