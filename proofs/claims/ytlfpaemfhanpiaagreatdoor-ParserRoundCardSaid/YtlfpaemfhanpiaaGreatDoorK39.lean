/-
  A row of handlers as the library's sort sees it. No function of the program.
-/
import Derived.Test.YtlfpaemfhanpiaaGreatDoorK31
import Derived.Test.YtlfpaemfhanpiaaGreatDoorK2
import Derived.Test.YtlfpaemfhanpiaaGreatDoorK33
import Derived.Shelf.GgSortFunc.InsertionK
import Derived.Shelf.SlSortCmp.Insertion

namespace Go.Proofs.YtlfpaemfhanpiaaGreatDoor
open Go Go.RowKit Go.Sort Go.Proofs Go.Lib

/-- A handler with the cells of its node. -/
structure HE where
  n : Nat
  t : TY.Nd
  k : Int
  i : Int
  s : ByteArray
  A : Option Addr
  m : Nat
  c : Nat
instance : Inhabited HE := ⟨⟨0, .mk 0 0 ⟨#[]⟩ [], 0, 0, ⟨#[]⟩, none, 0, 0⟩⟩
def HE.enc (x : HE) : List Value := [.int .i64 (x.n : Int), .int .i64 x.k, .int .i64 x.i, .string x.s, .slice x.A x.m x.c]
def HE.hd (x : HE) : PS.Hd := (x.n, x.t)
theorem flat5 (d : Array HE) (i q : Nat) (hi : i < d.size) (hq : q < 5) : (flatK HE.enc 5 d).toList[i * 5 + q]? = (HE.enc d[i]!)[q]? := by
  have h : i * 5 + q < d.size * 5 := by omega
  have e1 : (i * 5 + q) / 5 = i := by omega
  have e2 : (i * 5 + q) % 5 = q := by omega
  have hl : (HE.enc d[i]!).length = 5 := rfl
  rw [Array.getElem?_toList, Array.getElem?_eq_getElem (by rw [size_flatK]; exact h), ← getElem!_pos (flatK HE.enc 5 d) (i * 5 + q) (by rw [size_flatK]; exact h), get_flatK _ _ _ _ h, e1, e2, getElem!_pos _ q (by rw [hl]; exact hq), List.getElem?_eq_getElem (by rw [hl]; exact hq)]
/-- The row's elements. -/
theorem TR.elems {B j c : Nat} {W : World} {A : Option Addr} {hs : List PS.Hd} {cs : List Value} (h : TR 48 1 B W A j c (hnd2 hs) cs) : ∃ d : Array HE, d.size = j ∧ d.toList.map HE.hd = hs ∧ (∀ x ∈ d.toList, Nx B (Value.slice A j c).ownBlock W x.t (ndv x.k x.i x.s (.slice x.A x.m x.c))) ∧ cs = (flatK HE.enc 5 d).toList := by
  obtain ⟨h1, h2, h3, h4⟩ := h
  rw [List.length_map] at h1
  have key : ∀ i : Fin hs.length, ∃ x : HE, x.hd = hs[i.1] ∧ Nx B (Value.slice A j c).ownBlock W x.t (ndv x.k x.i x.s (.slice x.A x.m x.c)) ∧ ∀ q, q < 5 → cs[i.1 * 5 + q]? = x.enc[q]? := fun i => by
    obtain ⟨_, k, n, s, A', m, d, q, e, e0, e1, e2, e3⟩ := h4 i.1 ([.int .i64 (hs[i.1].1 : Int)], hs[i.1].2) (by rw [List.getElem?_map, List.getElem?_eq_getElem i.2]; rfl)
    refine ⟨⟨hs[i.1].1, hs[i.1].2, k, n, s, A', m, d⟩, rfl, q, fun r hr => ?_⟩
    have hc : r = 0 ∨ r = 1 ∨ r = 2 ∨ r = 3 ∨ r = 4 := by omega
    rcases hc with rfl | rfl | rfl | rfl | rfl
    · exact e 0 (by decide)
    · exact e0
    · exact e1
    · exact e2
    · exact e3
  obtain ⟨f, hf⟩ := Classical.axiomOfChoice key
  obtain ⟨d, hd⟩ : ∃ d : Array HE, d = Array.ofFn f := ⟨_, rfl⟩
  have hds : d.size = hs.length := by rw [hd]; simp
  have hdi : ∀ (i : Nat) (hi : i < hs.length), d[i]! = f ⟨i, hi⟩ := fun i hi => by
    rw [getElem!_pos d i (by omega)]
    simp [hd]
  have hdl : d.toList = List.ofFn f := by rw [hd, Array.toList_ofFn]
  refine ⟨d, by omega, ?_, fun x hx => ?_, ?_⟩
  · apply List.ext_getElem?
    intro i
    by_cases hi : i < hs.length
    · rw [List.getElem?_map, Array.getElem?_toList, Array.getElem?_eq_getElem (by omega), List.getElem?_eq_getElem hi, ← getElem!_pos d i (by omega), hdi i hi]
      exact congrArg some (hf ⟨i, hi⟩).1
    · rw [List.getElem?_eq_none (by simp; omega), List.getElem?_eq_none (by omega)]
  · rw [hdl, List.mem_ofFn] at hx
    obtain ⟨i, rfl⟩ := hx
    exact (hf i).2.1
  · apply List.ext_getElem?
    intro t
    have h3 : cs.length = hs.length * 5 := by rw [h3, List.length_map]
    by_cases ht : t < hs.length * 5
    · have hi : t / 5 < hs.length := by omega
      have := flat5 d (t / 5) (t % 5) (by omega) (by omega)
      rw [show t / 5 * 5 + t % 5 = t by omega] at this
      rw [this, hdi _ hi]
      have := (hf ⟨t / 5, hi⟩).2.2 (t % 5) (by omega)
      rwa [show t / 5 * 5 + t % 5 = t by omega] at this
    · rw [List.getElem?_eq_none (by omega), List.getElem?_eq_none (by rw [Array.length_toList, size_flatK]; omega)]
section
variable {α : Type} [Inhabited α]
theorem heap_srt {enc : α → Value} {w : World} {g n : Nat} {os : Array Obj} {cur : Array Value} {e : TypeId} {fr : Nat × Nat} (d : Array α) (hb : w.heap[g]? = some (.cells cur e fr)) :
    (grow (putRow enc (Sort.ahead w n) g 0 d) os).heap[g]? = some (.cells (putCells enc 0 d cur) e fr) := by
  have hg : g < w.heap.size := (Array.getElem?_eq_some_iff.1 hb).1
  rw [heap_grow_old _ _ (by simpa using hg)]
  simp [putRow, mapBlock, Sort.ahead, Array.getElem?_modify, hb, onCells]
theorem grown_srt {enc : α → Value} {w : World} {g n : Nat} {os : Array Obj} (d : Array α) : w.grownBy (grow (putRow enc (Sort.ahead w n) g 0 d) os) (some g) := by
  refine ⟨rfl, rfl, rfl, by simp, fun k hk hne => ?_⟩
  rw [heap_grow_old _ _ (by simpa using hk)]
  have : g ≠ k := fun e => hne (by rw [e])
  simp [putRow, mapBlock, Sort.ahead, Array.getElem?_modify, this]
theorem take_put {enc : α → Value} (cur : Array Value) (d : Array α) (h : d.size ≤ cur.size) : (putCells enc 0 d cur).toList.take d.size = d.toList.map enc := by
  apply List.ext_getElem?
  intro j
  by_cases hj : j < d.size
  · rw [List.getElem?_take_of_lt hj, Array.getElem?_toList]
    simp [putCells, hj, show j < cur.size by omega]
  · rw [List.getElem?_take_eq_none (by omega), List.getElem?_eq_none (by simp; omega)]
end
theorem lt_he (x y : HE) : ltOf (fun x y : HE => cmpN x.n y.n) x y = decide (x.n < y.n) := by
  unfold ltOf cmpN
  by_cases h1 : x.n < y.n
  · simp [h1]
  · by_cases h2 : y.n < x.n <;> simp [h1, h2]
theorem swo_he : SWO (ltOf fun x y : HE => cmpN x.n y.n) where
  irrefl x := by rw [lt_he]; simp
  trans x y z h1 h2 := by rw [lt_he] at *; simp at *; omega
  ntrans x y z h1 h2 := by rw [lt_he] at *; simp at *; omega
/-- What the shelf says of the sort. -/
def ShSort : Prop := ∀ (blk cap : Nat) (d : Array HE) (w : World), HoldsK HE.enc 5 w blk 0 d → blk < w.heap.size → d.size < 4611686018427387904 →
  Calls Tryz.prog 61 #[.slice (some ⟨blk, 0, none⟩) d.size cap, .func (.func 62) #[] #[]] w fun e w' => e = .returned (.tuple #[]) ∧ ∃ d' n os, PermIn 0 d.size d d' ∧ SortedIn (ltOf fun x y : HE => cmpN x.n y.n) 0 d.size d' ∧ w' = sortWorldK HE.enc 5 w blk 0 n d' os
def ShNone : Prop := ∀ (A : Option Addr) (c : Nat) (w : World), Calls Tryz.prog 61 #[.slice A 0 c, .func (.func 62) #[] #[]] w fun e w' => e = .returned (.tuple #[]) ∧ w' = w
theorem sortsH_of (h1 : ShSort) (h0 : ShNone) (tb g mb : Nat) (mv : Value) (mo : Obj) : SortsH tb g mb mv mo := by
  intro W lo x y A j c hs cs r H hn hl
  have hlen := H.len
  rcases Nat.eq_zero_or_pos j with hj | hj
  · subst hj
    have he : hs = [] := List.eq_nil_of_length_eq_zero hlen
    subst he
    refine (h0 A c W).mono ?_
    rintro e w' ⟨rfl, rfl⟩
    exact ⟨rfl, Chg.refl _ _, cs, H⟩
  · obtain ⟨d, hd1, hd2, hd3, hd4⟩ := H.row.elems
    obtain ⟨_, hown, _⟩ := H.row
    have hcap := H.cap
    rcases hown.2 with ⟨_, h00⟩ | ⟨b, cap, cur, hv, hb1, hb2, hb3, hb4, hb5, hb6⟩
    · omega
    · injection hv with hv1 hv2 hv3
      subst hv1 hv3
      have hbl := heap_lt hb2
      have hbg : b ≠ g := fun e => by have : g < lo := H.g; omega
      have hbt : b ≠ tb := fun e => by have : tb < lo := H.tb; omega
      have hbm : b ≠ mb := fun e => by have : mb < lo := H.mb; omega
      have hcell : ∀ t, t < d.size * 5 → cur[t]? = (flatK HE.enc 5 d).toList[t]? := fun t ht => by
        rw [← hd4, ← hb6, List.getElem?_take_of_lt (by omega), Array.getElem?_toList]
      have hH : HoldsK HE.enc 5 W b 0 d := by
        intro t ht
        rw [size_flatK] at ht
        rw [Nat.zero_add]
        refine ⟨?_, by simp [World.frozen?, hb2]⟩
        rw [cell_of_row W b t cur _ (0, 0) hb2, hcell t ht, Array.getElem?_toList, Array.getElem?_eq_getElem (by rw [size_flatK]; exact ht), ← getElem!_pos (flatK HE.enc 5 d) t (by rw [size_flatK]; exact ht)]
        rfl
      have hcon := h1 b c d W hH hbl (by omega)
      rw [hd1] at hcon
      refine hcon.mono ?_
      rintro e w' ⟨rfl, d', n, os, ⟨hp1, _, hp3⟩, hs', rfl⟩
      rw [hd1] at hp1
      have hp : d'.toList.Perm d.toList := by
        have e1 : d'.extract 0 j = d' := by rw [← hp1]; simp
        have e2 : d.extract 0 j = d := by rw [← hd1]; simp
        rw [e1, e2] at hp3
        exact hp3
      have hgr : W.grownBy (sortWorldK HE.enc 5 W b 0 n d' os) (some b) := grown_srt (enc := id) (w := W) (g := b) (n := n) (os := os) (flatK HE.enc 5 d')
      have hgb : (sortWorldK HE.enc 5 W b 0 n d' os).heap[b]? = some (.cells (putCells id 0 (flatK HE.enc 5 d') cur) 48 (0, 0)) := heap_srt (enc := id) (w := W) (g := b) (n := n) (os := os) (flatK HE.enc 5 d') hb2
      obtain ⟨U, hU⟩ : ∃ U, sortWorldK HE.enc 5 W b 0 n d' os = U := ⟨_, rfl⟩
      rw [hU] at hgr hgb ⊢
      have hk : ∀ z, z < W.heap.size → z ≠ b → U.heap[z]? = W.heap[z]? := fun z hz hne => hgr.block z hz (fun e => hne (Option.some.inj e))
      have hC : Chg (lo ≤ ·) W U := (Chg.of_grown hgr).mono fun z _ e => by have := Option.some.inj e; omega
      have hso : d'.toList.map HE.hd = PS.sortH hs := by
        refine PS.sortH_eq (l := hs) ?_ ?_ hn
        · rw [← hd2]
          exact (hp.map _).symm
        · unfold PS.Ord
          rw [List.pairwise_map, List.pairwise_iff_getElem]
          intro i k hi hk' hik
          have hk2 : k < j := by simpa [hp1] using hk'
          have := hs' i k (Nat.zero_le _) hik hk2
          rw [getElem!_pos d' k (by omega), getElem!_pos d' i (by omega)] at this
          rw [lt_he] at this
          simp only [Array.getElem_toList, HE.hd]
          rcases Nat.lt_or_ge (d'[k]'(by omega)).n (d'[i]'(by omega)).n with hlt | hge
          · exact absurd hlt (by simpa using this)
          · exact hge
      refine ⟨rfl, hC, (flatK HE.enc 5 d').toList, H.pat.keep2 (hk _ H.pat.lt (fun e => hbg e.symm)) (hk _ H.pat.ltb (fun e => hbt e.symm)) (hk _ H.pat.ltm (fun e => hbm e.symm)) hgr.size, ?_, rfl, H.g, H.tb, H.mb, Nat.le_trans H.big hgr.size⟩
      rw [← hso]
      refine ⟨by rw [List.length_map, List.length_map, Array.length_toList, hp1], ⟨?_, .inr ⟨b, _, _, rfl, hb1, hgb, hb3, hb4, ?_, ?_⟩⟩, ?_, fun i z hz => ?_⟩
      · rw [Array.length_toList, size_flatK, hp1]
      · simp [putCells, hb5]
      · have := take_put (enc := id) cur (flatK HE.enc 5 d') (by rw [size_flatK, hp1, hb5]; omega)
        rw [size_flatK, hp1, List.map_id] at this
        exact this
      · rw [Array.length_toList, size_flatK, List.length_map, List.length_map, Array.length_toList]
      · rw [List.getElem?_map, List.getElem?_map] at hz
        have hi : i < d'.size := by
          rcases Nat.lt_or_ge i d'.size with h | h
          · exact h
          · rw [List.getElem?_eq_none (by simpa using h)] at hz
            cases hz
        rw [Array.getElem?_toList, Array.getElem?_eq_getElem hi] at hz
        injection hz with hz
        subst hz
        have hmem : d'[i] ∈ d.toList := hp.mem_iff.1 (Array.getElem_mem_toList hi)
        have hnx := hd3 _ hmem
        have hg! : d'[i]! = d'[i] := getElem!_pos d' i hi
        refine ⟨rfl, d'[i].k, d'[i].i, d'[i].s, d'[i].A, d'[i].m, d'[i].c, fun V hV hi2 hhi => hnx V (fun z h1 h2 h3 => (hV z h1 (Nat.lt_of_lt_of_le h2 hgr.size) h3).trans (hk z h2 (fun e => h3 (by rw [e]; rfl)))) hi2 (Nat.le_trans hgr.size hhi), fun q hq => ?_, ?_, ?_, ?_, ?_⟩
        · obtain rfl : q = 0 := by omega
          rw [flat5 d' i 0 hi (by decide), hg!]
          rfl
        · rw [flat5 d' i 1 hi (by decide), hg!]
          rfl
        · rw [Nat.add_assoc, flat5 d' i 2 hi (by decide), hg!]
          rfl
        · rw [Nat.add_assoc, flat5 d' i 3 hi (by decide), hg!]
          rfl
        · rw [Nat.add_assoc, flat5 d' i 4 hi (by decide), hg!]
          rfl
end Go.Proofs.YtlfpaemfhanpiaaGreatDoor
