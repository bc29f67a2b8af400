/-
  The pure lexer, a step at a time: what the reference's loop needs.
  The reference's Tokens, told by the pure function lex. Condition: the source is of a length of which we speak.
-/
import Derived.Test.YtiejhgdjkfhmoaaDoorK10
import Derived.Test.YtiejhgdjkfhmoaaDoorK5
import Derived.Test.YtiejhgdjkfhmoaaDoorK7

namespace Go.Proofs.YtiejhgdjkfhmoaaDoor
open Go Go.RowKit Go.Proofs Go.Proofs.YtiejhgdjkfhmoaaDoor.LX

theorem lex_start (s : ByteArray) {k : Nat} (hk : k ≤ s.size) (h : skip (bsOf s) = (bsOf s).drop k) : lex (bsOf s) = lexF (s.size + 1) k ((bsOf s).drop k) := by
  have hlen := bs_len s
  unfold lex
  rw [hlen, lexF_skip _ _ _ (by rw [hlen]; omega), h, List.length_drop, hlen]
  congr 1
  omega
theorem step_bad (s : ByteArray) {a e : Nat} (ha : a < s.size) (hsk : skip ((bsOf s).drop a) = (bsOf s).drop a) (ht : tok1 ((bsOf s).drop a) = .bad e) : lexF (s.size + 1) a ((bsOf s).drop a) = .err a e ∧ e ≠ 0 := by
  have hlen := bs_len s
  have hdc := drop_cons (S := bsOf s) (i := a) (by rw [hlen]; exact ha)
  rw [hdc] at ht hsk ⊢
  refine ⟨?_, tok1_bad ht⟩
  rw [lexF, hsk]
  simp only [ht]
  rw [Nat.sub_self, Nat.add_zero]
theorem step_good (s : ByteArray) {a k n v j : Nat} (ha : a < s.size) (hsk : skip ((bsOf s).drop a) = (bsOf s).drop a) (ht : tok1 ((bsOf s).drop a) = .good k n v) (hj : j ≤ s.size) (hj2 : skip ((bsOf s).drop (a + n)) = (bsOf s).drop j) :
    lexF (s.size + 1) a ((bsOf s).drop a) = (lexF (s.size + 1) j ((bsOf s).drop j)).pre [⟨k, a, ((bsOf s).drop a).take n, v⟩] := by
  have hlen := bs_len s
  have hn := tok1_len ht
  rw [List.length_drop, hlen] at hn
  have hdc := drop_cons (S := bsOf s) (i := a) (by rw [hlen]; exact ha)
  have hsl := skipS_len false ((bsOf s).drop (a + n))
  have hsl : ((bsOf s).drop j).length ≤ ((bsOf s).drop (a + n)).length := by rw [← hj2]; exact hsl
  rw [List.length_drop, List.length_drop, hlen] at hsl
  have h1 : lexF s.size (a + n) ((bsOf s).drop (a + n)) = lexF (s.size + 1) j ((bsOf s).drop j) := by
    rw [lexF_skip s.size (a + n) _ (by rw [List.length_drop, hlen]; omega), hj2, List.length_drop, List.length_drop, hlen]
    rw [show a + n + (s.size - (a + n) - (s.size - j)) = j by omega]
    exact lexF_fuel _ _ _ _ (by rw [List.length_drop, hlen]; omega) (by rw [List.length_drop, hlen]; omega)
  rw [← h1]
  have hd : List.drop n ((bsOf s).drop a) = (bsOf s).drop (a + n) := by rw [List.drop_drop]
  rw [← hd]
  rw [hdc] at ht hsk ⊢
  rw [lexF, hsk]
  simp only [ht]
  rw [Nat.sub_self, Nat.add_zero]
theorem step_text (s : ByteArray) (a n : Nat) : s.extract a (a + n) = ⟨(((bsOf s).drop a).take n).toArray⟩ := by
  apply bytes_eq
  have := bs_extract s a (a + n)
  rw [Nat.add_sub_cancel_left] at this
  exact this
theorem step_end (s : ByteArray) : lexF (s.size + 1) s.size ((bsOf s).drop s.size) = .ok [⟨0, s.size, [], 0⟩] := by
  rw [List.drop_eq_nil_of_le (by rw [bs_len]; exact Nat.le_refl _)]
  rfl
end Go.Proofs.YtiejhgdjkfhmoaaDoor

namespace Go.Proofs.YtiejhgdjkfhmoaaDoor
open Go Go.RowKit Go.Proofs Go.Proofs.YtiejhgdjkfhmoaaDoor.LX

theorem info_rtok2 : (Tryd.prog.info? 49).map (fun i => (i.zero, i.size, i.bytes)) = some (some (.agg tok0), 4, 40) := by kernel_rfl
theorem tkCells_len (ts : List Tok) : (ts.flatMap tkCells).length = 4 * ts.length := by
  induction ts with
  | nil => rfl
  | cons t u ih => rw [List.flatMap_cons, List.length_append, ih]; simp [tkCells]; omega
theorem tkCells_one (ts : List Tok) : ∀ u ∈ ts.flatMap tkCells, u.oneCell' = true := by
  intro u hu
  obtain ⟨t, _, h⟩ := List.mem_flatMap.1 hu
  simp only [tkCells, List.mem_cons, List.not_mem_nil, or_false] at h
  rcases h with rfl | rfl | rfl | rfl <;> rfl
/-- One more token behind an own row. -/
theorem wpList_append_rtok {ops : Array Oper} {rest : List Oper} {o : Oper} {a : Act} {w : World} {Q : Exit → Act → World → Prop} (hgd : o.guard = none) (s x : Operand)
    (ho : o.op = .call { callee := .builtin .append, args := #[s, x], argTypes := #[45, 45] }) (base : Nat)
    (v : Value) (ts : List Tok) (hs : a.eval s = v) (hown : TRow w base 49 v ts)
    (ad : Addr) (c : Nat) (t : Tok) (hx : a.eval x = .slice (some ad) 1 c) (hc : ∀ j u, (tkCells t)[j]? = some u → w.cell? (ad.add j) = some u) (hlen : ts.length ≤ 1000000001) (hbase : base ≤ w.heap.size)
    (h : ∀ A' c' w', TRow w' base 49 (.slice A' (ts.length + 1) c') (ts ++ [t]) → w.grownBy w' v.ownBlock → wpList Tryd.prog ops Q rest (a.put o.dst (.slice A' (ts.length + 1) c')) w') : wpList Tryd.prog ops Q (o :: rest) a w := by
  refine wpList_plain hgd fun K hK => ?_
  obtain ⟨i0, hi0, hz0, hz1, hz2⟩ := info_parts info_rtok2
  refine wp_append_own (P := Tryd.prog) w s x 45 ho base 49 i0 _ 4 40 Tryd.underlying45 hi0 hz0 hz1 hz2 rfl (by decide) v ts.length (ts.flatMap tkCells) hs hown ad 1 c (tkCells t) hx rfl hc (fun u hu => tkCells_one [t] u (by simpa using hu)) (by simp only [maxLen]; omega) (by omega) hbase ?_
  intro v' w' h1 h2 _
  obtain ⟨A', c', rfl⟩ : ∃ A' c', v' = .slice A' (ts.length + 1) c' := by
    rcases h1.2 with ⟨rfl, h0⟩ | ⟨g, cap, cur, rfl, _⟩
    · exact ⟨none, 0, by rw [h0]⟩
    · exact ⟨_, cap, rfl⟩
  refine hK _ _ (h A' c' w' ?_ h2)
  unfold TRow
  rw [List.length_append, List.length_singleton, List.flatMap_append, List.flatMap_singleton]
  exact h1
theorem tRow_lt {W : World} {lo : Nat} {T : TypeId} {v : Value} {ts : List Tok} (h : TRow W lo T v ts) (b : Nat) (e : v.ownBlock = some b) : lo ≤ b ∧ b < W.heap.size := by
  rcases h.2 with ⟨rfl, _⟩ | ⟨g, cap, cur, rfl, h1, h2, _⟩
  · cases e
  · simp [Value.ownBlock] at e
    subst e
    exact ⟨h1, heap_lt h2⟩
theorem tRow_below {W W' : World} {lo : Nat} {T : TypeId} {v : Value} {ts : List Tok} (h : TRow W lo T v ts) (hb : Below W.heap.size W W') : TRow W' lo T v ts := by
  refine ⟨h.1, ?_⟩
  rcases h.2 with h0 | ⟨g, cap, cur, rfl, h1, h2, h3⟩
  · exact .inl h0
  · exact .inr ⟨g, cap, cur, rfl, h1, (hb.block _ (heap_lt h2)).trans h2, h3⟩
end Go.Proofs.YtiejhgdjkfhmoaaDoor
