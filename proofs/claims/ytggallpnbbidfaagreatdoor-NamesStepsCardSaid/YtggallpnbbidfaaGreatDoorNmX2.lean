/-
  The examples of the chapter, on paper. Plain mathematics; no function of the program.
-/
import Derived.Test.YtggallpnbbidfaaGreatDoorNmG
namespace Go.Proofs.YtggallpnbbidfaaGreatDoor.NM
open Go.Lib

def sCrash : Bs := [99, 114, 97, 115, 104, 32, 48, 50]
def sDraw : Bs := [100, 114, 97, 119, 32, 48, 46, 49, 46, 50, 32, 51]
def sDeliver : Bs := [100, 101, 108, 105, 118, 101, 114, 32, 50, 32, 49, 46, 49, 50, 46, 48, 46, 51, 46, 48]
theorem itoa_small {i : Nat} (h : i < 10) : itoa (i : Int) = [UInt8.ofNat (48 + i)] := by
  unfold itoa
  rw [if_neg (by omega)]
  exact decDigits_one h
theorem itoa_12 : itoa 12 = [49, 50] := by
  unfold itoa
  rw [if_neg (by omega)]
  exact decDigits_two (i := 12) (by omega) (by omega)
theorem deliver_text : evT ⟨3, 2, 0, ⟨1, 12, 0, 3, 0⟩⟩ = sDeliver := by
  have h0 : itoa 0 = [48] := itoa_small (i := 0) (by omega)
  have h1 : itoa 1 = [49] := itoa_small (i := 1) (by omega)
  have h2 : itoa 2 = [50] := itoa_small (i := 2) (by omega)
  have h3 : itoa 3 = [51] := itoa_small (i := 3) (by omega)
  have hf : fits ⟨3, 2, 0, ⟨1, 12, 0, 3, 0⟩⟩ = true := by decide
  unfold evT
  rw [if_pos hf, if_neg (show ¬ argK 3 = true by decide), if_pos (show msgK 3 = true by decide), words_three]
  simp only [dots_one, msL, dots_cons, h0, h1, h2, h3, itoa_12]
  rfl
theorem draw_text : quT ⟨0, 1, 2, 1, 3⟩ = sDraw := by
  have h0 : itoa 0 = [48] := itoa_small (i := 0) (by omega)
  have h1 : itoa 1 = [49] := itoa_small (i := 1) (by omega)
  have h2 : itoa 2 = [50] := itoa_small (i := 2) (by omega)
  have h3 : itoa 3 = [51] := itoa_small (i := 3) (by omega)
  have hf : okQ ⟨0, 1, 2, 1, 3⟩ = true := by decide
  rw [quT_eq hf]
  simp only [dots_one, dots_cons, h0, h1, h2, h3]
  rfl
theorem draw_ok : okQs sDraw = true ∧ parseQ sDraw = ⟨0, 1, 2, 1, 3⟩ := by
  have := okQs_text (q := ⟨0, 1, 2, 1, 3⟩) (by decide)
  rwa [draw_text] at this
theorem crash_guess : guessE sCrash = ⟨7, 2, 0, m0⟩ := by
  have hc : cut sCrash [32] = (wCrash, [48, 50], true) := cut_append wCrash [48, 50] (by decide)
  have hr : rest sCrash = [48, 50] := by
    unfold rest
    rw [hc]
    exact replaceAll_no _ (by decide)
  have hn : six sCrash = [2, 0, 0, 0, 0, 0] := by
    unfold six
    rw [hr, nums, cut_no [48, 50] (by decide)]
    show atoiN [48, 50] :: nums 5 [] = _
    rw [nums_nil]
    rfl
  unfold guessE
  rw [hc, hn]
  rfl
theorem crash_bad : okE sCrash = false := by
  have h2 : itoa 2 = [50] := itoa_small (i := 2) (by omega)
  unfold okE
  rw [crash_guess]
  have hf : fits ⟨7, 2, 0, m0⟩ = true := by decide
  have ht : evT ⟨7, 2, 0, m0⟩ = [99, 114, 97, 115, 104, 32, 50] := by
    unfold evT
    rw [if_pos hf, if_neg (show ¬ argK 7 = true by decide), if_neg (show ¬ msgK 7 = true by decide), words_two, dots_one, h2]
    rfl
  rw [ht]
  rfl
end Go.Proofs.YtggallpnbbidfaaGreatDoor.NM
