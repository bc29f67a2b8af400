/-
  Declaring a further variable, or one fewer. Plain mathematics; no function of the program.
-/
import Derived.Test.YtofeidacffabdaaTyOc
namespace Go.Proofs.Ytofeidacffabdaa.TY

abbrev zz : ByteArray := ⟨#[122, 122]⟩
def NZ (t : Nd) : Prop := zz ∉ occ t
theorem NZ.mk {k n : Int} {s : ByteArray} {l : List Nd} (h : k = 1 ∨ k = 14 → zz ≠ s) (hl : ∀ x ∈ l, NZ x) : NZ (.mk k n s l) := by
  unfold NZ
  rw [occ_eq, List.mem_append]
  rintro (h1 | h1)
  · by_cases hk : k = 1 ∨ k = 14
    · rw [if_pos hk, List.mem_singleton] at h1
      exact h hk h1
    · rw [if_neg hk] at h1
      cases h1
  · obtain ⟨m, hm, hz⟩ := List.mem_flatten.1 h1
    obtain ⟨x, hx, rfl⟩ := List.mem_map.1 hm
    exact hl x hx hz
theorem vName_zz (y : Nat) : zz ≠ vName y := fun h => by
  have h1 : zz.data[0]? = (vName y).data[0]? := by rw [h]
  simp [vName] at h1
theorem NZ.nil {k n : Int} {s : ByteArray} (h : k = 1 ∨ k = 14 → zz ≠ s) : NZ (.mk k n s []) := NZ.mk h fun x hx => by cases hx
theorem NZ.k0 {k : Int} (h : ¬ (k = 1 ∨ k = 14)) {n : Int} {s : ByteArray} {l : List Nd} (hl : ∀ x ∈ l, NZ x) : NZ (.mk k n s l) := NZ.mk (fun e => absurd e h) hl
theorem genF_nz (L : List Int) (deep : Bool) {sub : Nat → Nat → Nd × Nat} (hs : ∀ t i, NZ (sub t i).1) (want i : Nat) : NZ (genF L deep sub want i).1 := by
  have h1 : ∀ k s t i, ¬ (k = 1 ∨ k = 14) → NZ (one sub k s t i).1 := fun k s t i hk => by
    unfold one
    exact NZ.k0 hk fun x hx => by
      rw [List.mem_singleton] at hx
      subst hx
      exact hs _ _
  have h2 : ∀ s t i, NZ (two sub s t i).1 := fun s t i => by
    unfold two
    exact NZ.k0 (by decide) fun x hx => by
      rcases List.mem_cons.1 hx with rfl | hx
      · exact hs _ _
      · rw [List.mem_singleton] at hx
        subst hx
        exact hs _ _
  unfold genF genB genI genL
  repeat' split
  all_goals first
    | exact h2 _ _ _
    | exact h1 _ _ _ _ (by decide)
    | exact NZ.nil (fun e => absurd e (by decide))
    | exact NZ.nil (fun _ => vName_zz _)
theorem genE_nz (L : List Int) : ∀ d want i, NZ (genE L d want i).1
  | 0 => genF_nz L false fun _ _ => NZ.nil (fun e => absurd e (by decide))
  | d + 1 => genF_nz L true (genE_nz L d)
theorem blockG_nz (L : List Int) {st : Gen} (h : ∀ i, NZ (st i).1) (i : Nat) : NZ (blockG L st i).1 := NZ.k0 (by decide) (many_fit h _ _)
theorem stF_nz (L : List Int) (deep : Bool) {sub : Gen} (h : ∀ i, NZ (sub i).1) (i : Nat) : NZ (stF L deep sub i).1 := by
  have hE := fun d t j => genE_nz L d t j
  unfold stF
  dsimp only
  repeat' split
  all_goals
    refine NZ.mk (fun e => ?_) fun x hx => ?_
    · first | exact absurd e (by decide) | exact vName_zz _
    · simp only [List.mem_cons, List.not_mem_nil, or_false] at hx <;>
      first
        | (rcases hx with rfl | rfl | rfl <;> first | exact hE _ _ _ | exact h _)
        | (rcases hx with rfl | rfl <;> first | exact hE _ _ _ | exact h _)
        | (subst hx; first | exact hE _ _ _ | exact h _)
        | exact hx.elim
theorem stG_nz (L : List Int) : ∀ d i, NZ (stG L d i).1
  | 0 => stF_nz L false fun _ => NZ.k0 (by decide) fun x hx => by cases hx
  | d + 1 => stF_nz L true (blockG_nz L (stG_nz L d))
theorem onG_all {P : Nd → Prop} (L : List Int) (nums : List Int) (h : ∀ i, P (blockG L (stG L 2) i).1) : ∀ m i, ∀ x ∈ onG L nums m i, P x.2
  | 0, _, x, hx => by cases hx
  | m + 1, i, x, hx => by
    unfold onG at hx
    dsimp only at hx
    split at hx
    · rcases List.mem_cons.1 hx with rfl | hx
      · exact h _
      · exact onG_all L nums h m _ x hx
    · exact onG_all L nums h m _ x hx
theorem unit_nz (L : List Int) : ∀ x ∈ (unitG L).on, NZ x.2 := onG_all L _ (blockG_nz L (stG_nz L 2)) 4 4
theorem unit_oc (L : List Int) : ∀ x ∈ (unitG L).on, (occ x.2).length ≤ 6000 := onG_all (P := fun t => (occ t).length ≤ 6000) L _ (fun i => Nat.le_trans (blockG_oc L (stG_oc L 2) i) (by decide)) 4 4

def Un.more (u : Un) : Un := { u with dur := zz :: u.dur }
def Un.fewer (u : Un) (s : ByteArray) : Un := { u with dur := less u.dur s, vol := less u.vol s }
theorem chk_more {u : Un} (h : ∀ x ∈ u.on, NZ x.2) : chk u.more = chk u := by
  unfold chk
  rw [all_congr_mem (q := fun h => wellP h.2 && !undec u.vars h.2) fun x hx => by
    show (wellP x.2 && !undec (zz :: u.vars) x.2) = _
    rw [undec_more _ _ _ (h x hx)]]
  rfl
theorem fewer_vars (u : Un) (s : ByteArray) : (u.fewer s).vars = less u.vars s := by
  unfold Un.vars Un.fewer less
  rw [List.filter_append]
/-- All names of a program, as the law lists them. -/
def used (on : List (Int × Nd)) : List ByteArray := on.foldl (fun a h => names h.2 a) []
theorem used_mem' {x : ByteArray} : ∀ (on : List (Int × Nd)) (acc : List ByteArray), x ∈ on.foldl (fun a h => names h.2 a) acc ↔ x ∈ acc ∨ ∃ h ∈ on, x ∈ occ h.2
  | [], acc => by simp
  | y :: t, acc => by
    rw [List.foldl_cons, used_mem' t, names_mem]
    simp only [List.mem_cons, exists_eq_or_imp, or_assoc]
theorem used_mem {x : ByteArray} {on : List (Int × Nd)} : x ∈ used on ↔ ∃ h ∈ on, x ∈ occ h.2 := by
  unfold used
  rw [used_mem']
  simp
theorem chk_fewer_in {u : Un} {s : ByteArray} (h : inL (used u.on) s = true) : chk (u.fewer s) = 11 := by
  obtain ⟨x, hx, hs⟩ := used_mem.1 (inL_iff.1 h)
  unfold chk
  rw [if_neg]
  intro ha
  have h1 := List.all_eq_true.1 ha x hx
  rw [fewer_vars, undec_less, inL_iff.2 hs, Bool.or_true, Bool.not_true, Bool.and_false] at h1
  cases h1
theorem chk_fewer_out {u : Un} {s : ByteArray} (h : inL (used u.on) s = false) : chk (u.fewer s) = chk u := by
  unfold chk
  rw [all_congr_mem (q := fun h => wellP h.2 && !undec u.vars h.2) fun x hx => by
    have : inL (occ x.2) s = false := by
      rw [Bool.eq_false_iff]
      intro e
      have h2 : inL (used u.on) s = true := inL_iff.2 (used_mem.2 ⟨x, hx, inL_iff.1 e⟩)
      rw [h] at h2
      cases h2
    rw [fewer_vars, undec_less, this, Bool.or_false]]
  rfl
end Go.Proofs.Ytofeidacffabdaa.TY
