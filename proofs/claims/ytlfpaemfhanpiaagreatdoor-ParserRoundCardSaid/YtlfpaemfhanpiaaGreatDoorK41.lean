/-
  The library's sort of the handlers, out of the shelf's contract. No condition but lengths.
-/
import Derived.Test.YtlfpaemfhanpiaaGreatDoorK39
import Derived.Test.YtlfpaemfhanpiaaGreatDoorK40
import Derived.Shelf.SlSortCmp.WholeK

namespace Go.Proofs.YtlfpaemfhanpiaaGreatDoor
open Go Go.RowKit Go.Sort Go.Proofs Go.Lib

theorem shSort : ShSort := by
  intro blk cap d w hH hblk hsz
  have eg := enters_of Tryz.func62 (by kernel_rfl) rfl
  have hcmp : CmpLays Tryz.prog 62 #[] HE.enc 5 (fun x y => cmpN x.n y.n) blk 0 d.size w := fun m os dk _ x y => (less_any x.n y.n x.k x.i y.k y.i x.s y.s x.A y.A x.m x.c y.m y.c _).mono fun e w' h => ⟨h.1, 0, #[.cells (hv5 x.n x.k x.i x.s x.A x.m x.c) 48] ++ #[.cells (hv5 y.n y.k y.i y.s y.A y.m y.c) 48], h.2.trans (by rw [alloc_eq_grow, alloc_eq_grow, grow_grow]; rfl)⟩
  have hcon := AnyQ.slices_SortFunc Tryz.sortHd 5 Tryz.isAgg48 Tryz.sizeOf48 HE.enc (fun _ => rfl) (fun x v hv => by simp [HE.enc] at hv; rcases hv with rfl | rfl | rfl | rfl | rfl <;> rfl) (fun x y => cmpN x.n y.n) swo_he 62 #[] blk 0 cap d w eg hcmp hH hblk hsz
  exact hcon
end Go.Proofs.YtlfpaemfhanpiaaGreatDoor
