/-
  The library's sort of the questions, out of the shelf's contract. No condition but lengths.
  slices.SortedFunc of a map's questions: in a new row, in order. Condition: the map's size.
-/
import Derived.Test.YtiokiecnglmbnaaK10
import Derived.Test.YtiokiecnglmbnaaK11
import Derived.Shelf.SlSortCmp.WholeK
import Derived.Shelf.SlSortCmp.NoneTotal

namespace Go.Proofs.Ytiokiecnglmbnaa
open Go Go.RowKit Go.Sort Go.Proofs Go.Lib

theorem shSortQ : ShSortQ := by
  intro blk cap d w hH hblk hsz
  have eg := enters_of Try.func39 (by kernel_rfl) rfl
  have hcmp : CmpLays Try.prog 39 #[] quC 5 cfQ blk 0 d.size w := fun m os dk _ x y => (cmpQueD_any x y _).mono fun e w' h => ⟨h.1, h.2.exact⟩
  have hcon := AnyQ.slices_SortFunc Try.sortHd 5 Try.isAgg30 Try.sizeOf30 quC (fun _ => rfl) (fun x v hv => by simp [quC] at hv; rcases hv with rfl | rfl | rfl | rfl | rfl <;> rfl) cfQ swo_q 39 #[] blk 0 cap d w eg hcmp hH hblk hsz
  exact hcon
theorem shNoneQ : ShNoneQ := by
  intro A c w
  exact AnyF.slices_SortFunc_none { Try.sortHd with } A c _ w
theorem sortQ : SortQ := sortQ_of shSortQ shNoneQ
end Go.Proofs.Ytiokiecnglmbnaa

namespace Go.Proofs.Ytiokiecnglmbnaa
open Go Go.RowKit Go.Proofs
attribute [local go_sem] Oper.semAt_some

theorem sorted_lt {ss : List NM.Qu} (hn : ss.Nodup) (h : ss.Pairwise (fun x y => ¬ TP.ltQ y x)) : ss.Pairwise TP.ltQ := by
  refine (List.pairwise_and_iff.2 ⟨h, hn⟩).imp ?_
  rintro a b ⟨h1, h2⟩
  exact TP.ltQ_tot h1 (fun e => h2 e.symm)
/-- The sorted questions of t with their answers are t's normal form. -/
theorem sorted_norm {t : List TP.An} {ss : List NM.Qu} (h : SetQ (TP.getA t) ss) (hs : ss.Pairwise TP.ltQ) : (ss.map fun q => (q, TP.getA t q)) = TP.normA t := by
  refine TP.srt_ext (List.pairwise_map.2 hs) (TP.norm_srt t) fun x => ?_
  rw [TP.mem_norm, List.mem_map]
  constructor
  · rintro ⟨q, hq, rfl⟩
    exact ⟨rfl, (h.2 q).1 hq⟩
  · rintro ⟨h1, h2⟩
    exact ⟨x.1, (h.2 _).2 (by rw [← h1]; exact h2), by rw [← h1]⟩
set_option maxRecDepth 100000 in
theorem sortedF_any (Bm B m : Nat) (f : NM.Qu → Int) (w : World) (hlt : Bm < w.heap.size) (hBm : w.cell? ⟨Bm, 0, none⟩ = some (.map (some B))) (hm : MapQ w B f m) (hmb : m ≤ 1000000) :
    Calls Try.prog 71 #[.func (.func 91) #[] #[.pointer (some ⟨Bm, 0, none⟩)], .func (.func 39) #[] #[]] w fun e w' => ∃ A n c ss, e = .returned (.slice A n c) ∧ List.length ss = n ∧ n ≤ m ∧ SetQ f ss ∧ ss.Pairwise TP.ltQ ∧ w'.ownsRow w.heap.size 30 5 (.slice A n c) n (ss.flatMap quC) ∧ Below w.heap.size w w' := by
  have HC := Lib.hid (collect_any Bm B m f w hlt hBm hm hmb)
  clear hBm hm
  go_enter Try.func71, Try.ntmps71
  go_wp2_with (first
    | (go_at_call 89; refine HC.out.mono ?_; rintro e w1 ⟨A, c, ss, rfl, h1, h2, h3, h4⟩; clear HC; have HH := Lib.hid (And.intro h1 (And.intro h3 h4)); obtain ⟨n, hn⟩ : ∃ n, List.length ss = n := ⟨_, rfl⟩; rw [hn] at h2 HH ⊢; have HS := Lib.hid (sortQ w.heap.size n c A ss w1 HH.out.2.1 hn (by omega)); have HN := Lib.hid (And.intro hn h2); clear hn h1 h2 h3 h4)
    | (go_at_call 90; refine HS.out.mono ?_; rintro e w2 ⟨rfl, ss', p1, p2, p3, p4⟩; clear HS; have HP := Lib.hid (And.intro p1 (And.intro p2 (And.intro p3 p4))); clear p1 p2 p3 p4))
  go_ret
  obtain ⟨p1, p2, p3, p4⟩ := HP.out
  obtain ⟨h1, h3, h4⟩ := HH.out
  have hset : SetQ f ss' := ⟨(p1.nodup_iff).2 h1.1, fun q => (p1.mem_iff).trans (h1.2 q)⟩
  exact ⟨A, n, c, ss', rfl, p1.length_eq.trans HN.out.1, HN.out.2, hset, sorted_lt hset.1 p2, p3, h4.grown p4 h4.size (fun k e => (h3.lt k e).1)⟩
end Go.Proofs.Ytiokiecnglmbnaa
