/-
  What the laws of layer 16 share: the generator at a law's own argument; Less by happens-before. No function of the program.
-/
import Derived.Test.YtlomhoohmcnniaaDoorK14
import Derived.Test.YtlomhoohmcnniaaDoorK18

namespace Go.Proofs.YtlomhoohmcnniaaDoor
open Go Go.RowKit Go.Proofs

theorem i64_ofD {zs : List Int} (h : ∀ n ∈ zs, (Lit.int .i64 n).wf = true) : ∀ z ∈ zs, I64 z := fun z hz => by have := bounds_i64 (h z hz); unfold I64; omega
theorem run_row {w : World} {a : Option Addr} {n c : Nat} {z : List Int} (h : Row .i64 w a n c z) : Calls Tryd.prog 10 #[.slice a n c, .int .i64 14] w fun e w' => ∃ A' m c' R, e = .returned (.slice A' m c') ∧ Run w' A' m c' R ∧ m ≤ 14 ∧ (∀ s ∈ R, DP.Gd s) ∧ Below w.heap.size w w' := by
  obtain ⟨hz, _, _, hwf⟩ := h.ints
  exact run_any w hz (Nat.le_refl _) (i64_ofD hwf)
theorem less_hb {V : World} {hi p : Nat} {R : List DP.St} (h : Od V hi p (DP.ordD R)) (hR : R.length ≤ 14) (i k : Nat) : Calls Tryd.prog 13 #[.pointer (some ⟨p, 0, none⟩), .int .i64 (i : Int), .int .i64 (k : Int)] V fun e w' => e = .returned (.bool (DP.hb R i k)) ∧ V = w' := by
  have h2 := less_any h (by rw [DP.ordD_len hR]; exact hR) (DP.ordD_cl hR).small (i : Int) (k : Int)
  rw [PO.ltI_nat' (DP.ordD_cl hR).small] at h2
  exact h2
end Go.Proofs.YtlomhoohmcnniaaDoor
