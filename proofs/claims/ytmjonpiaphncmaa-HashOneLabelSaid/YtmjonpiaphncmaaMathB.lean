/-
  Plain mathematics of the hash, with no program: what becomes of it where one integer, the bytes of one group, or the length differ.
-/
import Derived.Test.YtmjonpiaphncmaaMath
namespace Go.Proofs.Ytmjonpiaphncmaa
open Go

/-- Lists that differ in one place alone: the folds agree just where that place agrees. -/
theorem foldW_set (l : List Int) : ∀ (s : Int) (k : Nat) (v : Int), W64 s → (∀ x ∈ l, W64 x) → W64 v → k < l.length → foldW s (l.set k v) = foldW s l → l[k]?.getD 0 = v := by
  induction l with
  | nil => intro s k v _ _ _ hk _; simp at hk
  | cons x l ih =>
    intro s k v hs hl hv hk h
    have hx := hl x (by simp)
    have hl' : ∀ y ∈ l, W64 y := fun y hy => hl y (by simp [hy])
    cases k with
    | zero =>
      have h' : foldW (mixI s v) l = foldW (mixI s x) l := h
      have := mixI_inj hs hv hx (foldW_inj l _ _ (mixI_w s v hs hv) (mixI_w s x hs hx) hl' h')
      simp [this]
    | succ k =>
      have h' : foldW (mixI s x) (l.set k v) = foldW (mixI s x) l := h
      have := ih (mixI s x) k v (mixI_w s x hs hx) hl' hv (by simpa using hk) h'
      simpa using this

theorem sumI_set (lab l : List Int) (k : Nat) (v : Int) (hlab : ∀ x ∈ lab, B8 x) (hL : Len lab.length) (hn : Len l.length) (hk : k < l.length) (h : sumI lab (l.set k v) = sumI lab l) : u64 (l[k]?.getD 0) = u64 v := by
  unfold sumI at h
  rw [List.length_set, List.map_set] at h
  have hs : W64 (mixI (lab1 lab) l.length) := mixI_w _ _ (lab1_w lab hlab hL) (len_w hn)
  have hw := map_u64_w l
  have hv := u64_w v
  have hset : ∀ x ∈ (l.map u64).set k (u64 v), W64 x := fun x hx => by
    rcases List.mem_or_eq_of_mem_set hx with hx | rfl
    · exact hw x hx
    · exact hv
  have h2 := mixI_inj_state (foldW_w _ _ hs hset) (foldW_w _ _ hs hw) w64_zero h
  have h3 := foldW_set (l.map u64) _ k (u64 v) hs hw hv (by simpa using hk) h2
  rw [← h3, List.getElem?_map, List.getElem?_eq_getElem hk]
  rfl

theorem one_word (lab l : List Int) (k : Nat) (v : Int) (hlab : ∀ x ∈ lab, B8 x) (hL : Len lab.length) (hn : Len l.length) (hk : k < l.length) (hl : ∀ x ∈ l, I64 x) (hv : I64 v) :
    sumI lab l = sumI lab (l.set k v) ↔ l[k]?.getD 0 = v := by
  constructor
  · intro h
    refine u64_inj (hl _ ?_) hv (sumI_set lab l k v hlab hL hn hk h.symm)
    rw [List.getElem?_eq_getElem hk]; exact List.getElem_mem hk
  · intro h
    have : l.set k v = l := by
      apply List.ext_getElem?
      intro i
      rw [List.getElem?_set]
      split
      · rename_i e
        subst e
        rw [← h, List.getElem?_eq_getElem hk]
        rfl
      · rfl
    rw [this]

/-! ### Bytes that differ within one group -/
theorem grp_get (x : List Int) (j i : Nat) : (grp x j)[i]? = if i < 8 then x[8 * j + i]? else none := by
  unfold grp
  rw [List.getElem?_take, List.getElem?_drop]
theorem grp_congr {x y : List Int} {i : Nat} (h : ∀ p, p / 8 = i → x[p]? = y[p]?) : grp x i = grp y i := by
  apply List.ext_getElem?
  intro q
  rw [grp_get, grp_get]
  split
  · exact h _ (by omega)
  · rfl
theorem wordsI_set {x y : List Int} {j : Nat} (hl : y.length = x.length) (h : ∀ p, p / 8 ≠ j → x[p]? = y[p]?) : wordsI y = (wordsI x).set j (leW (grp y j)) := by
  unfold wordsI
  rw [hl]
  apply List.ext_getElem?
  intro i
  rw [List.getElem?_set, wordsTo_length]
  unfold wordsTo
  rw [List.getElem?_map, List.getElem?_map]
  by_cases hi : i < nwords x.length
  · rw [List.getElem?_range hi]
    split
    · rename_i e
      subst e
      rw [if_pos hi]
      rfl
    · rename_i e
      rw [Option.map_some, Option.map_some, grp_congr (x := x) (y := y) (fun p hp => h p (by omega))]
  · rw [List.getElem?_eq_none (by simpa using hi)]
    split
    · rw [if_neg (by omega)]; rfl
    · rfl
theorem eq_of_grp {x y : List Int} {j : Nat} (h : ∀ p, p / 8 ≠ j → x[p]? = y[p]?) (hg : grp x j = grp y j) : x = y := by
  apply List.ext_getElem?
  intro p
  by_cases hp : p / 8 = j
  · have h1 := grp_get x j (p % 8)
    have h2 := grp_get y j (p % 8)
    rw [if_pos (by omega), show 8 * j + p % 8 = p by omega] at h1 h2
    rw [← h1, ← h2, hg]
  · exact h p hp
theorem grp_eq_of_le {x y : List Int} {j : Nat} (hl : y.length = x.length) (hx : ∀ z ∈ x, B8 z) (hy : ∀ z ∈ y, B8 z) (h : leW (grp x j) = leW (grp y j)) : grp x j = grp y j :=
  leW_inj _ _ (fun z hz => hx z (grp_mem hz)) (fun z hz => hy z (grp_mem hz)) (by rw [grp_length, grp_length, hl]) h
theorem wordsI_get (x : List Int) (j : Nat) (hj : j < nwords x.length) : (wordsI x)[j]?.getD 0 = leW (grp x j) := by
  unfold wordsI wordsTo
  rw [List.getElem?_map, List.getElem?_range hj]
  rfl
theorem wordsI_length (x : List Int) : (wordsI x).length = nwords x.length := wordsTo_length _ _
theorem nwords_le (n : Nat) (h : n ≤ 1000) : nwords n ≤ 1000 := by unfold nwords; omega

theorem one_group (lab x y : List Int) (j : Nat) (hlab : ∀ z ∈ lab, B8 z) (hL : Len lab.length) (hn : x.length ≤ 1000) (hl : y.length = x.length) (hx : ∀ z ∈ x, B8 z) (hy : ∀ z ∈ y, B8 z) (hj : j < nwords x.length)
    (h : ∀ p, p / 8 ≠ j → x[p]? = y[p]?) (he : bytesI lab x = bytesI lab y) : x = y := by
  have hws := wordsI_set hl h
  have hN := nwords_le _ hn
  have hwl := wordsI_length x
  have e : bytesL y = (bytesL x).set j (i64 (leW (grp y j))) := by
    unfold bytesL
    rw [hws, hl, List.map_set, List.set_append_left _ _ (by rw [List.length_map]; omega)]
  unfold bytesI at he
  rw [e] at he
  have h1 := sumI_set lab (bytesL x) j (i64 (leW (grp y j))) hlab hL (by unfold bytesL Len; rw [List.length_append, List.length_map]; simp; omega) (by unfold bytesL; rw [List.length_append, List.length_map]; omega) he.symm
  have h2 : (bytesL x)[j]?.getD 0 = i64 (leW (grp x j)) := by
    unfold bytesL
    rw [List.getElem?_append_left (by rw [List.length_map]; omega), List.getElem?_map]
    have h3 : j < (wordsI x).length := by omega
    have h4 := wordsI_get x j hj
    rw [List.getElem?_eq_getElem h3] at h4 ⊢
    simp only [Option.getD_some, Option.map_some] at h4 ⊢
    rw [h4]
  rw [h2, u64_i64 _ (grp_w x j hx), u64_i64 _ (grp_w y j hy)] at h1
  exact eq_of_grp h (grp_eq_of_le hl hx hy h1)

theorem one_label (l x y : List Int) (j : Nat) (hm : Len l.length) (hn : x.length ≤ 1000) (hl : y.length = x.length) (hx : ∀ z ∈ x, B8 z) (hy : ∀ z ∈ y, B8 z) (hj : j < nwords x.length)
    (h : ∀ p, p / 8 ≠ j → x[p]? = y[p]?) (he : sumI x l = sumI y l) : x = y := by
  have hxl : Len x.length := by unfold Len; omega
  have hyl : Len y.length := by unfold Len; omega
  unfold sumI at he
  have w1 := lab1_w x hx hxl
  have w2 := lab1_w y hy hyl
  have w3 := mixI_w _ _ w1 (len_w hm)
  have w4 := mixI_w _ _ w2 (len_w hm)
  have h1 := mixI_inj_state (foldW_w _ _ w3 (map_u64_w l)) (foldW_w _ _ w4 (map_u64_w l)) w64_zero he
  have h2 := mixI_inj_state w1 w2 (len_w hm) (foldW_inj _ _ _ w3 w4 (map_u64_w l) h1)
  unfold lab1 at h2
  rw [hl] at h2
  have h3 := mixI_inj_state (foldW_w _ _ w64_zero (wordsI_w x hx)) (foldW_w _ _ w64_zero (wordsI_w y hy)) (len_w hxl) h2
  rw [wordsI_set hl h] at h3
  have h4 := foldW_set (wordsI x) 0 j _ w64_zero (wordsI_w x hx) (grp_w y j hy) (by rw [wordsI_length]; exact hj) h3.symm
  rw [wordsI_get x j hj] at h4
  exact eq_of_grp h (grp_eq_of_le hl hx hy h4)

/-! ### A zero byte more, where the last group is not full -/
theorem grp_snoc (x : List Int) (i : Nat) (hi : 8 * i ≤ x.length) : leW (grp (x ++ [0]) i) = leW (grp x i) := by
  unfold grp
  rw [List.drop_append_of_le_length hi, List.take_append]
  by_cases h : 8 ≤ (x.drop (8 * i)).length
  · rw [show 8 - (x.drop (8 * i)).length = 0 by omega]
    simp
  · rw [List.take_of_length_le (by omega), show ([0] : List Int).take (8 - (x.drop (8 * i)).length) = [0] from List.take_of_length_le (by simp; simp at h; omega), leW_snoc]
    omega
theorem words_snoc (x : List Int) (h : x.length % 8 ≠ 0) : wordsI (x ++ [0]) = wordsI x := by
  unfold wordsI
  have hn : nwords (x ++ [0]).length = nwords x.length := by rw [List.length_append]; unfold nwords; simp; omega
  rw [hn]
  unfold wordsTo
  refine List.map_congr_left fun i hi => ?_
  rw [List.mem_range] at hi
  exact grp_snoc x i (by unfold nwords at hi; omega)
theorem longer_ne (lab x : List Int) (hlab : ∀ z ∈ lab, B8 z) (hL : Len lab.length) (hn : x.length ≤ 1000) (h : x.length % 8 ≠ 0) : bytesI lab (x ++ [0]) ≠ bytesI lab x := by
  intro he
  have hN := nwords_le _ hn
  have hwl := wordsI_length x
  have e : bytesL (x ++ [0]) = (bytesL x).set (nwords x.length) ((x.length + 1 : Nat) : Int) := by
    unfold bytesL
    rw [words_snoc x h, List.set_append_right _ _ (by rw [List.length_map]; omega), List.length_map, hwl, Nat.sub_self, List.length_append]
    rfl
  unfold bytesI at he
  rw [e] at he
  have h1 := sumI_set lab (bytesL x) (nwords x.length) _ hlab hL (by unfold bytesL Len; rw [List.length_append, List.length_map]; simp; omega) (by unfold bytesL; rw [List.length_append, List.length_map]; simp; omega) he
  have h2 : (bytesL x)[nwords x.length]?.getD 0 = (x.length : Int) := by
    unfold bytesL
    rw [List.getElem?_append_right (by rw [List.length_map]; omega), List.length_map, hwl, Nat.sub_self]
    rfl
  rw [h2, u64_eq, u64_eq] at h1
  omega
end Go.Proofs.Ytmjonpiaphncmaa
