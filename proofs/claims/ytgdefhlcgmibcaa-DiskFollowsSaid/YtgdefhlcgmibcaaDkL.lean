/-
  The law's do and built, the reference's Do and Built. No condition but that the numbers are ints.
-/
import Derived.Test.YtgdefhlcgmibcaaDkK
namespace Go.Proofs.Ytgdefhlcgmibcaa
open Go Go.RowKit Go.Proofs
attribute [local go_sem] Oper.semAt_some

namespace DK
def built (c : Int) (zs : List Int) : Dk := steps (new (around c 7).toNat) (ops zs)
theorem ok_built (c : Int) (zs : List Int) : Ok (built c zs) := ok_steps (ok_new _ (by have := around_in c 7 (by omega); omega)) (ops_ok zs)
theorem Ok.in_ {d : Dk} (h : Ok d) : In d := h.vars
theorem ok_at {c : Int} {zs : List Int} (j : Nat) : Ok (steps (new (around c 7).toNat) ((ops zs).take j)) := ok_steps (ok_new _ (by have := around_in c 7 (by omega); omega)) fun o ho => ops_ok zs o (List.mem_of_mem_take ho)
theorem steps_take {d : Dk} {l : List Op} {j : Nat} {o : Op} (h : l[j]? = some o) : steps d (l.take (j + 1)) = step (steps d (l.take j)) o := by rw [List.take_add_one, h]; exact steps_snoc _ _ _
end DK
theorem dk_ne {w : World} {g b : Nat} {C Y : Array Value} {t t' : TypeId} (h : w.heap[g]? = some (.cells C t (0, 0))) (hb : w.heap[b]? = some (.cells Y t' (0, 0))) (hne : t ≠ t') : g ≠ b := by
  rintro rfl
  rw [h] at hb
  injection hb with hb
  injection hb with _ hb
  exact hne hb
/-- A disk stays where a box of disks turns. -/
theorem DkAt.other {lo lo' b : Nat} {w w' : World} {x : Value} {d : DK.Dk} {Y : Array Value} (h : DkAt lo w x d) (hb : w.heap[b]? = some (.cells Y 26 (0, 0))) (ho : ∀ k, k ≠ b → k < w.heap.size → w'.heap[k]? = w.heap[k]?) (hl : lo' ≤ lo) : DkAt lo' w' x d := by
  obtain ⟨A, n, c, P, m, q, e, h1, h2⟩ := h
  exact ⟨A, n, c, P, m, q, e, Rw.keepTo h1 (fun g C hc _ => ho g (dk_ne hc hb (by decide)) (blk_lt hc)) hl, Rw.keepTo h2 (fun g C hc _ => ho g (dk_ne hc hb (by decide)) (blk_lt hc)) hl⟩
theorem OpsV.other {lo b : Nat} {w w' : World} {Y : Array Value} (hb : w.heap[b]? = some (.cells Y 26 (0, 0))) (ho : ∀ k, k ≠ b → k < w.heap.size → w'.heap[k]? = w.heap[k]?) : ∀ {os : List DK.Op} {vs : List Value}, OpsV lo w os vs → OpsV lo w' os vs
  | [], _, h => h
  | _ :: _, _, ⟨K, kc, vs', e, h1, h2⟩ => ⟨K, kc, vs', e, Rw.keepTo h1 (fun g C hc _ => ho g (dk_ne hc hb (by decide)) (blk_lt hc)) (Nat.le_refl _), h2.other hb ho⟩
theorem OpsAt.other {lo b n c : Nat} {w w' : World} {A : Option Addr} {os : List DK.Op} {Y : Array Value} (h : OpsAt lo w A n c os) (hb : w.heap[b]? = some (.cells Y 26 (0, 0))) (ho : ∀ k, k ≠ b → k < w.heap.size → w'.heap[k]? = w.heap[k]?) : OpsAt lo w' A n c os := by
  obtain ⟨hl, vs, h1, h2⟩ := h
  exact ⟨hl, vs, Rw.keepTo h1 (fun g C hc _ => ho g (dk_ne hc hb (by decide)) (blk_lt hc)) (Nat.le_refl _), h2.other hb ho⟩
theorem dk_three_boxes (w : World) (A B C : Obj) : ∃ U, ((w.alloc A).alloc B).alloc C = U ∧ Below w.heap.size w U ∧ U.heap[w.heap.size]? = some A ∧ U.heap[w.heap.size + 1]? = some B ∧ U.heap[w.heap.size + 2]? = some C ∧ U.heap.size = w.heap.size + 3 := by
  obtain ⟨U, hU, hb, k0, k1, hz⟩ := dk_two_boxes w A B
  have hb2 := dk_box U C
  refine ⟨_, by rw [hU], hb.trans (hb2.mono hb.size), (hb2.block _ (by omega)).trans k0, (hb2.block _ (by omega)).trans k1, dk_new_at (by omega), by simp; omega⟩
set_option maxHeartbeats 4000000 in
set_option maxRecDepth 100000 in
theorem do_any {lo lo' kc : Nat} {K : Option Addr} {o : DK.Op} {x : Value} {d : DK.Dk} (w : World) (h : DkAt lo w x d) (hd : DK.Ok d) (hb : Bls lo' w K o.keep.length kc o.keep) (ho : DK.OpOk o) : Calls Try.prog 15 #[x, .agg #[.int .i64 o.op, .int .i64 o.cell, .int .i64 o.value, .slice K o.keep.length kc]] w fun e w' => (∃ y, e = .returned y ∧ DkAt w.heap.size w' y (DK.step d o)) ∧ Below w.heap.size w w' := by
  have hok := DK.ok_step hd ho
  have h0 := h
  obtain ⟨A, n, c, P, m, q, rfl, h1, h2⟩ := h
  obtain ⟨oop, ocell, oval, okeep⟩ := o
  obtain ⟨U, hU, hbu, k0, k1, k2, hz⟩ := dk_three_boxes w (.cells #[.slice A n c, .slice P m q] 26) (.cells #[.int .i64 oop, .int .i64 ocell, .int .i64 oval, .slice K okeep.length kc] 33) (.cells #[.slice none 0 0, .slice none 0 0] 26)
  obtain ⟨c0, c1⟩ := dk_two k0
  obtain ⟨p0, p1, p2, p3⟩ := dk_four k1
  have HX := Lib.hid (And.intro (h0.keep hbu) (hb.keep hbu))
  have HB := Lib.hid (And.intro hbu (And.intro hz k2))
  have HD := Lib.hid (And.intro hd (And.intro ho hok))
  have hop := ho.op
  have hn1 : d.cells.length ≤ 1000 := by have := hd.size; omega
  have hm1 : d.pend.length ≤ 4 := hd.pend
  clear h0 h1 h2 hb hbu k0 k1 k2 hz hd ho hok
  have hcase : oop = 1 ∨ oop = 2 ∨ oop = 3 ∨ oop = 0 := by have h1 : 0 ≤ oop := hop.1; have h2 : oop ≤ 3 := hop.2; omega
  clear hop
  rcases hcase with rfl | rfl | rfl | rfl
  · have HC := Lib.hid (sync_any U HX.out.1 hn1 (by omega))
    go_enter Try.func15, Try.ntmps15
    go_wp2_with (first | (go_at_call 24; refine HC.out.mono ?_; rintro e w2 ⟨⟨y, rfl, A2, n2, c2, P2, m2, q2, rfl, j1, j2⟩, hb2⟩; have HK := Lib.hid (And.intro (show DkAt U.heap.size w2 (.agg #[.slice A2 n2 c2, .slice P2 m2 q2]) _ from ⟨A2, n2, c2, P2, m2, q2, rfl, j1, j2⟩) hb2); have HR := Lib.hid ((hb2.block _ (by have := HB.out.2.1; omega)).trans HB.out.2.2); clear j1 j2 hb2) | (refine dk_store rfl _ _ rfl (w.heap.size + 2) A2 n2 c2 P2 m2 q2 _ _ rfl rfl HR.out ?_; intro w5 k5 ho5 hz5 hb5))
    refine bodyPost_ret (dk_ret rfl _ rfl k5) rfl ?_
    obtain ⟨hbu, hz, _⟩ := HB.out
    obtain ⟨hk, hb2⟩ := HK.out
    exact ⟨⟨_, rfl, (show DK.step d ⟨1, ocell, oval, okeep⟩ = DK.sync d from rfl) ▸ hk.other HR.out (fun k hk _ => ho5 k hk) (by omega)⟩, (hbu.trans (hb2.mono hbu.size)).trans (hb5.mono (by omega))⟩
  · have HC := Lib.hid (crash_any U HX.out.1 HX.out.2 hn1 (by omega) (by have h1 : okeep.length ≤ 5 := HD.out.2.1.keep; show okeep.length ≤ 1000; omega))
    go_enter Try.func15, Try.ntmps15
    go_wp2_with (first | (go_at_call 25; refine HC.out.mono ?_; rintro e w2 ⟨⟨y, rfl, A2, n2, c2, P2, m2, q2, rfl, j1, j2⟩, hb2⟩; have HK := Lib.hid (And.intro (show DkAt U.heap.size w2 (.agg #[.slice A2 n2 c2, .slice P2 m2 q2]) _ from ⟨A2, n2, c2, P2, m2, q2, rfl, j1, j2⟩) hb2); have HR := Lib.hid ((hb2.block _ (by have := HB.out.2.1; omega)).trans HB.out.2.2); clear j1 j2 hb2) | (refine dk_store rfl _ _ rfl (w.heap.size + 2) A2 n2 c2 P2 m2 q2 _ _ rfl rfl HR.out ?_; intro w5 k5 ho5 hz5 hb5))
    refine bodyPost_ret (dk_ret rfl _ rfl k5) rfl ?_
    obtain ⟨hbu, hz, _⟩ := HB.out
    obtain ⟨hk, hb2⟩ := HK.out
    exact ⟨⟨_, rfl, (show DK.step d ⟨2, ocell, oval, okeep⟩ = DK.crash d okeep from rfl) ▸ hk.other HR.out (fun k hk _ => ho5 k hk) (by omega)⟩, (hbu.trans (hb2.mono hbu.size)).trans (hb5.mono (by omega))⟩
  · obtain ⟨kk, rfl⟩ : ∃ kk : Nat, ocell = (kk : Int) := ⟨ocell.toNat, by have h1 : 0 ≤ ocell := (HD.out.2.1.cell rfl).1; omega⟩
    have hkk : kk ≤ 16 := by have h1 : (kk : Int) ≤ 16 := (HD.out.2.1.cell rfl).2; omega
    have HC := Lib.hid (resize_any kk hkk U HX.out.1 hn1 (by omega))
    go_enter Try.func15, Try.ntmps15
    go_wp2_with (first | (go_at_call 26; refine HC.out.mono ?_; rintro e w2 ⟨⟨y, rfl, A2, n2, c2, P2, m2, q2, rfl, j1, j2⟩, hb2⟩; have HK := Lib.hid (And.intro (show DkAt U.heap.size w2 (.agg #[.slice A2 n2 c2, .slice P2 m2 q2]) _ from ⟨A2, n2, c2, P2, m2, q2, rfl, j1, j2⟩) hb2); have HR := Lib.hid ((hb2.block _ (by have := HB.out.2.1; omega)).trans HB.out.2.2); clear j1 j2 hb2) | (refine dk_store rfl _ _ rfl (w.heap.size + 2) A2 n2 c2 P2 m2 q2 _ _ rfl rfl HR.out ?_; intro w5 k5 ho5 hz5 hb5))
    refine bodyPost_ret (dk_ret rfl _ rfl k5) rfl ?_
    obtain ⟨hbu, hz, _⟩ := HB.out
    obtain ⟨hk, hb2⟩ := HK.out
    exact ⟨⟨_, rfl, (show DK.step d ⟨3, (kk : Int), oval, okeep⟩ = DK.resize d kk from rfl) ▸ hk.other HR.out (fun k hk _ => ho5 k hk) (by omega)⟩, (hbu.trans (hb2.mono hbu.size)).trans (hb5.mono (by omega))⟩
  · have HC := Lib.hid (write_any ocell oval U HX.out.1 hn1 (by omega))
    go_enter Try.func15, Try.ntmps15
    go_wp2_with (first | (go_at_call 23; refine HC.out.mono ?_; rintro e w2 ⟨⟨y, rfl, A2, n2, c2, P2, m2, q2, rfl, j1, j2⟩, hb2⟩; have HK := Lib.hid (And.intro (show DkAt U.heap.size w2 (.agg #[.slice A2 n2 c2, .slice P2 m2 q2]) _ from ⟨A2, n2, c2, P2, m2, q2, rfl, j1, j2⟩) hb2); have HR := Lib.hid ((hb2.block _ (by have := HB.out.2.1; omega)).trans HB.out.2.2); clear j1 j2 hb2) | (refine dk_store rfl _ _ rfl (w.heap.size + 2) A2 n2 c2 P2 m2 q2 _ _ rfl rfl HR.out ?_; intro w5 k5 ho5 hz5 hb5))
    refine bodyPost_ret (dk_ret rfl _ rfl k5) rfl ?_
    obtain ⟨hbu, hz, _⟩ := HB.out
    obtain ⟨hk, hb2⟩ := HK.out
    exact ⟨⟨_, rfl, (show DK.step d ⟨0, ocell, oval, okeep⟩ = DK.write d ocell oval from rfl) ▸ hk.other HR.out (fun k hk _ => ho5 k hk) (by omega)⟩, (hbu.trans (hb2.mono hbu.size)).trans (hb5.mono (by omega))⟩
set_option maxHeartbeats 4000000 in
set_option maxRecDepth 100000 in
theorem refDo_any {lo lo' kc : Nat} {K : Option Addr} {o : DK.Op} {x : Value} {d : DK.Dk} (w : World) (h : DkAt lo w x d) (hd : DK.Ok d) (hb : Bls lo' w K o.keep.length kc o.keep) (ho : DK.OpOk o) : Calls Try.prog 16 #[x, .agg #[.int .i64 o.op, .int .i64 o.cell, .int .i64 o.value, .slice K o.keep.length kc]] w fun e w' => (∃ y, e = .returned y ∧ DkAt 0 w' y (DK.step d o)) ∧ Below w.heap.size w w' := by
  have hok := DK.ok_step hd ho
  have h0 := h
  obtain ⟨A, n, c, P, m, q, rfl, h1, h2⟩ := h
  obtain ⟨oop, ocell, oval, okeep⟩ := o
  obtain ⟨U, hU, hbu, k0, k1, k2, hz⟩ := dk_three_boxes w (.cells #[.slice A n c, .slice P m q] 26) (.cells #[.int .i64 oop, .int .i64 ocell, .int .i64 oval, .slice K okeep.length kc] 33) (.cells #[.slice none 0 0, .slice none 0 0] 26)
  obtain ⟨c0, c1⟩ := dk_two k0
  obtain ⟨p0, p1, p2, p3⟩ := dk_four k1
  have HX := Lib.hid (And.intro (h0.keep hbu) (hb.keep hbu))
  have HB := Lib.hid (And.intro hbu (And.intro hz k2))
  have HD := Lib.hid (And.intro hd (And.intro ho hok))
  have hop := ho.op
  have hn1 : d.cells.length ≤ 1000 := by have := hd.size; omega
  have hm1 : d.pend.length ≤ 4 := hd.pend
  clear h0 h1 h2 hb hbu k0 k1 k2 hz hd ho hok
  have hcase : oop = 1 ∨ oop = 2 ∨ oop = 3 ∨ oop = 0 := by have h1 : 0 ≤ oop := hop.1; have h2 : oop ≤ 3 := hop.2; omega
  clear hop
  rcases hcase with rfl | rfl | rfl | rfl
  · have HC := Lib.hid (refSync_any U HX.out.1 HD.out.1.in_ hn1 (by omega))
    go_enter Try.func16, Try.ntmps16
    go_wp2_with (first | (go_at_call 31; refine HC.out.mono ?_; rintro e w2 ⟨⟨y, rfl, A2, n2, c2, P2, m2, q2, rfl, j1, j2⟩, hb2⟩; have HK := Lib.hid (And.intro (show DkAt U.heap.size w2 (.agg #[.slice A2 n2 c2, .slice P2 m2 q2]) _ from ⟨A2, n2, c2, P2, m2, q2, rfl, j1, j2⟩) hb2); have HR := Lib.hid ((hb2.block _ (by have := HB.out.2.1; omega)).trans HB.out.2.2); clear j1 j2 hb2) | (refine dk_store rfl _ _ rfl (w.heap.size + 2) A2 n2 c2 P2 m2 q2 _ _ rfl rfl HR.out ?_; intro w5 k5 ho5 hz5 hb5))
    refine bodyPost_ret (dk_ret rfl _ rfl k5) rfl ?_
    obtain ⟨hbu, hz, _⟩ := HB.out
    obtain ⟨hk, hb2⟩ := HK.out
    exact ⟨⟨_, rfl, (show DK.step d ⟨1, ocell, oval, okeep⟩ = DK.sync d from rfl) ▸ hk.other HR.out (fun k hk _ => ho5 k hk) (by omega)⟩, (hbu.trans (hb2.mono hbu.size)).trans (hb5.mono (by omega))⟩
  · have HC := Lib.hid (refCrash_any U HX.out.1 HX.out.2 HD.out.1.in_ hn1 (by omega))
    go_enter Try.func16, Try.ntmps16
    go_wp2_with (first | (go_at_call 32; refine HC.out.mono ?_; rintro e w2 ⟨⟨y, rfl, A2, n2, c2, P2, m2, q2, rfl, j1, j2⟩, hb2⟩; have HK := Lib.hid (And.intro (show DkAt U.heap.size w2 (.agg #[.slice A2 n2 c2, .slice P2 m2 q2]) _ from ⟨A2, n2, c2, P2, m2, q2, rfl, j1, j2⟩) hb2); have HR := Lib.hid ((hb2.block _ (by have := HB.out.2.1; omega)).trans HB.out.2.2); clear j1 j2 hb2) | (refine dk_store rfl _ _ rfl (w.heap.size + 2) A2 n2 c2 P2 m2 q2 _ _ rfl rfl HR.out ?_; intro w5 k5 ho5 hz5 hb5))
    refine bodyPost_ret (dk_ret rfl _ rfl k5) rfl ?_
    obtain ⟨hbu, hz, _⟩ := HB.out
    obtain ⟨hk, hb2⟩ := HK.out
    exact ⟨⟨_, rfl, (show DK.step d ⟨2, ocell, oval, okeep⟩ = DK.crash d okeep from rfl) ▸ hk.other HR.out (fun k hk _ => ho5 k hk) (by omega)⟩, (hbu.trans (hb2.mono hbu.size)).trans (hb5.mono (by omega))⟩
  · obtain ⟨kk, rfl⟩ : ∃ kk : Nat, ocell = (kk : Int) := ⟨ocell.toNat, by have h1 : 0 ≤ ocell := (HD.out.2.1.cell rfl).1; omega⟩
    have hkk : kk ≤ 16 := by have h1 : (kk : Int) ≤ 16 := (HD.out.2.1.cell rfl).2; omega
    have HC := Lib.hid (refResize_any kk hkk U HX.out.1 HD.out.1.in_ hn1 (by omega))
    go_enter Try.func16, Try.ntmps16
    go_wp2_with (first | (go_at_call 33; refine HC.out.mono ?_; rintro e w2 ⟨⟨y, rfl, A2, n2, c2, P2, m2, q2, rfl, j1, j2⟩, hb2⟩; have HK := Lib.hid (And.intro (show DkAt U.heap.size w2 (.agg #[.slice A2 n2 c2, .slice P2 m2 q2]) _ from ⟨A2, n2, c2, P2, m2, q2, rfl, j1, j2⟩) hb2); have HR := Lib.hid ((hb2.block _ (by have := HB.out.2.1; omega)).trans HB.out.2.2); clear j1 j2 hb2) | (refine dk_store rfl _ _ rfl (w.heap.size + 2) A2 n2 c2 P2 m2 q2 _ _ rfl rfl HR.out ?_; intro w5 k5 ho5 hz5 hb5))
    refine bodyPost_ret (dk_ret rfl _ rfl k5) rfl ?_
    obtain ⟨hbu, hz, _⟩ := HB.out
    obtain ⟨hk, hb2⟩ := HK.out
    exact ⟨⟨_, rfl, (show DK.step d ⟨3, (kk : Int), oval, okeep⟩ = DK.resize d kk from rfl) ▸ hk.other HR.out (fun k hk _ => ho5 k hk) (by omega)⟩, (hbu.trans (hb2.mono hbu.size)).trans (hb5.mono (by omega))⟩
  · have HC := Lib.hid (refWrite_any ocell oval U HX.out.1 HD.out.1.in_ hn1 hm1)
    go_enter Try.func16, Try.ntmps16
    go_wp2_with (first | (go_at_call 34; refine HC.out.mono ?_; rintro e w2 ⟨⟨y, rfl, A2, n2, c2, P2, m2, q2, rfl, j1, j2⟩, hb2⟩; have HK := Lib.hid (And.intro (show DkAt 0 w2 (.agg #[.slice A2 n2 c2, .slice P2 m2 q2]) _ from ⟨A2, n2, c2, P2, m2, q2, rfl, j1, j2⟩) hb2); have HR := Lib.hid ((hb2.block _ (by have := HB.out.2.1; omega)).trans HB.out.2.2); clear j1 j2 hb2) | (refine dk_store rfl _ _ rfl (w.heap.size + 2) A2 n2 c2 P2 m2 q2 _ _ rfl rfl HR.out ?_; intro w5 k5 ho5 hz5 hb5))
    refine bodyPost_ret (dk_ret rfl _ rfl k5) rfl ?_
    obtain ⟨hbu, hz, _⟩ := HB.out
    obtain ⟨hk, hb2⟩ := HK.out
    exact ⟨⟨_, rfl, (show DK.step d ⟨0, ocell, oval, okeep⟩ = DK.write d ocell oval from rfl) ▸ hk.other HR.out (fun k hk _ => ho5 k hk) (by omega)⟩, (hbu.trans (hb2.mono hbu.size)).trans (hb5.mono (by omega))⟩
/-- A disk made since block lo. -/
def RgX.Sp.dkv (lo : Nat) (d : DK.Dk) : RgX.Sp := ⟨fun w x => ∃ A n c P m q, x = .agg #[.slice A n c, .slice P m q] ∧ Cls lo w A n c d.cells ∧ Wrs lo w P m q d.pend,
  fun ⟨A, n, c, P, m, q, e, h1, h2⟩ hb => ⟨A, n, c, P, m, q, e, h1.keep hb, h2.keep hb⟩⟩
theorem RgX.dkv_calls {P : Program} {f : FuncId} {args : Array Value} {w : World} {lo lo' : Nat} {d : DK.Dk} (h : Calls P f args w fun e w' => (∃ y, e = .returned y ∧ DkAt lo w' y d) ∧ Below w.heap.size w w') (hl : lo' ≤ lo) : Calls P f args w fun e w' => (∃ y, e = .returned y ∧ (RgX.Sp.dkv lo' d).p w' y) ∧ Below w.heap.size w w' :=
  h.mono fun _ _ ⟨⟨y, e, hy⟩, hb⟩ => ⟨⟨y, e, hy.more hl⟩, hb⟩
set_option maxHeartbeats 4000000 in
set_option maxRecDepth 100000 in
theorem built_any {A : Option Addr} {n c : Nat} {zs : List Int} (cs : Int) (w : World) (hc : I64 cs) (hz : Ints .i64 w.heap.size w A n zs) (h64 : ∀ x ∈ zs, I64 x) : Calls Try.prog 22 #[.int .i64 cs, .slice A n c] w fun e w' => (∃ y, e = .returned y ∧ DkAt w.heap.size w' y (DK.built cs zs)) ∧ Below w.heap.size w w' := by
  obtain ⟨U, hU⟩ : ∃ U, w.alloc (.cells #[.slice none 0 0, .slice none 0 0] 26) = U := ⟨_, rfl⟩
  have hbu : Below w.heap.size w U := hU ▸ dk_box w _
  have ku : U.heap[w.heap.size]? = some (.cells #[.slice none 0 0, .slice none 0 0] 26 (0, 0)) := by rw [← hU]; exact dk_new_at rfl
  have hsu : U.heap.size = w.heap.size + 1 := by rw [← hU]; simp
  obtain ⟨k, hk⟩ : ∃ k : Nat, around cs 7 = (k : Int) := ⟨_, (Int.toNat_of_nonneg (around_in cs 7 (by omega)).1).symm⟩
  have hk7 : k < 7 := by have := (around_in cs 7 (by omega)).2; omega
  have HA := Lib.hid (fun V => around_any cs 7 hc (by omega) (by omega) V)
  have HKK := Lib.hid (show (around cs 7).toNat = k by rw [hk]; rfl)
  rw [hk] at HA
  have HNW := Lib.hid (new_any k (by omega) U)
  have HZ := Lib.hid (And.intro hz (And.intro h64 hc))
  have HU := Lib.hid (And.intro hbu (And.intro ku hsu))
  clear hz h64 hbu ku hsu hk hc
  go_enter Try.func22, Try.ntmps22
  go_upto_region 2 with (first | (go_at_call 11; refine (HA.out _).mono ?_; rintro e w2 ⟨rfl, rfl⟩) | (go_at_call 12; refine HNW.out.mono ?_; rintro e w2 ⟨⟨y, rfl, A2, n2, c2, P2, m2, q2, rfl, j1, j2⟩, hb2⟩; have HJ := Lib.hid (And.intro (show DkAt U.heap.size w2 (.agg #[.slice A2 n2 c2, .slice P2 m2 q2]) (DK.new k) from ⟨A2, n2, c2, P2, m2, q2, rfl, j1, j2⟩) hb2); clear j1 j2 hb2) | (refine dk_store rfl _ _ rfl w2.heap.size A2 n2 c2 P2 m2 q2 _ _ rfl rfl (dk_new_at rfl) ?_; intro w5 k5 ho5 hz5 hb5))
  have HX5 := Lib.hid (And.intro k5 (And.intro (HJ.out.1.keep ((dk_box w2 _).trans hb5)) (And.intro ((HJ.out.2.trans (((dk_box w2 _).trans hb5).mono HJ.out.2.size))) (show w5.heap.size = w2.heap.size + 1 by rw [hz5]; simp))))
  have hw5 : Below w.heap.size w w5 := HU.out.1.trans (HX5.out.2.2.1.mono HU.out.1.size)
  have HOP := Lib.hid (ops_any w5 (c := c) (by have := HZ.out.1.below hw5; exact this.more hw5.size) HZ.out.2.1)
  have HW5 := Lib.hid hw5
  clear k5 ho5 hz5 hb5 hw5 hU
  go_wp2_with (go_at_call 14; refine HOP.out.mono ?_; rintro e w6 ⟨⟨B, r, rfl, jo⟩, hb6⟩)
  have s5 := HX5.out.2.2.2
  have s5b := HX5.out.2.2.1.size
  have HO := Lib.hid (And.intro jo (And.intro (HW5.out.trans (hb6.mono HW5.out.size)) (And.intro ((hb6.block w2.heap.size (by omega)).trans HX5.out.1) (And.intro (HX5.out.2.1.keep hb6) ((hb6.block w.heap.size (by have := HU.out.2.2; omega)).trans ((HX5.out.2.2.1.block _ (by have := HU.out.2.2; omega)).trans HU.out.2.1))))))
  have hw26 : w2.heap.size < w6.heap.size := by have := hb6.size; omega
  have hw2 : w.heap.size < w2.heap.size := by have := HU.out.2.2; have := HJ.out.2.size; omega
  obtain ⟨L, hL⟩ : ∃ L, (DK.ops zs).length = L := ⟨_, rfl⟩
  rw [hL] at HO ⊢
  have HL := Lib.hid hL
  have hL20 : L ≤ 20 := by rw [← hL]; unfold DK.ops; rw [List.length_map, List.length_take]; omega
  clear jo hb6 s5 s5b hL HOP
  go_loopw [7] (fun i V => ∃ (j : Nat) (A n c P m q : _), j ≤ L ∧ i = .int .i64 (j : Int) ∧ Hid (V.heap[w2.heap.size]? = some (.cells #[.slice A n c, .slice P m q] 26 (0, 0))) ∧ Hid (DkAt (w.heap.size + 1) V (.agg #[.slice A n c, .slice P m q]) (DK.steps (DK.new k) ((DK.ops zs).take j))) ∧ Hid (Below w.heap.size w V) ∧ Hid (w6.heap.size ≤ V.heap.size) ∧ Hid (∀ b, b ≠ w2.heap.size → b < w6.heap.size → V.heap[b]? = w6.heap[b]?)) (fun i _ => L - (intOf i).toNat)
  case atStart => exact ⟨0, A2, n2, c2, P2, m2, q2, by omega, rfl, HO.out.2.2.1, DkAt.more HO.out.2.2.2.1 (by have := HU.out.2.2; omega), HO.out.2.1, Nat.le_refl _, fun _ _ _ => rfl⟩
  case round =>
    obtain ⟨j, A4, n4, c4, P4, m4, q4, hj, rfl, HK, HD, HB, HS, HF⟩ := hrel
    by_cases hin : j < L
    · have dj : decide (j < L) = true := decide_eq_true hin
      have HOV := Lib.hid (HO.out.1.other HO.out.2.2.1 HF.out)
      obtain ⟨gO, offO, o, K, kc, rfl, hgO, hoj, hbl, o0, o1, o2, o3⟩ := HOV.out.at_ hin
      have HC := Lib.hid (fun (V : World) (hV : Below wr.heap.size wr V) => And.intro (dk_two ((hV.block _ (blk_lt HK.out)).trans HK.out)) (And.intro ((hV.cell (p := ⟨gO, offO + j * 4, none⟩) hgO).trans o0) (And.intro ((hV.cell (p := ⟨gO, offO + j * 4 + 1, none⟩) hgO).trans o1) (And.intro ((hV.cell (p := ⟨gO, offO + j * 4 + 2, none⟩) hgO).trans o2) ((hV.cell (p := ⟨gO, offO + j * 4 + 3, none⟩) hgO).trans o3)))))
      have HOK := Lib.hid (And.intro (show DK.Ok (DK.steps (DK.new k) ((DK.ops zs).take j)) by rw [← HKK.out]; exact DK.ok_at j) (DK.ops_ok zs o (List.mem_of_getElem? hoj)))
      have HST := Lib.hid (DK.steps_take (d := DK.new k) hoj)
      have HBL := Lib.hid hbl
      clear hoj o0 o1 o2 o3 hbl
      obtain ⟨dj1, hdj1⟩ : ∃ d1, DK.steps (DK.new k) ((DK.ops zs).take j) = d1 := ⟨_, rfl⟩
      rw [hdj1] at HD HOK HST
      clear hdj1
      go_wp2_with fail
      refine RgX.tail 6 (fun i => ( 19 + i)) (fun ix_ => match ix_ with | 0 => .v (.agg #[.slice A4 n4 c4, .slice P4 m4 q4]) | 1 => .v (.slice (some { block := gO, off := offO }) L r) | 2 => .v (.int .i64 (j : Int)) | 3 => .v (.pointer (some ⟨gO, offO + j * 4, none⟩)) | 4 => .v (.agg #[.int .i64 o.op, .int .i64 o.cell, .int .i64 o.value, .slice K o.keep.length kc]) | 5 => .dkv (w.heap.size + 1) (DK.step dj1 o) | _ => .any) _ (by kernel_rfl) rfl rfl (by kernel_rfl) (by kernel_rfl) (fun i hi => by show ( 19 + i) < 26; (repeat' split) <;> omega) (fun i j hi hj => by show ( 19 + i) = ( 19 + j) → i = j; (repeat' split) <;> omega) ?step ?fin
      case step =>
        intro L_ A_ w3 ix op_ hi hI ho hdep
        have hcase : ix = 0 ∨ ix = 1 ∨ ix = 2 ∨ ix = 3 ∨ ix = 4 ∨ ix = 5 := by omega
        have hh := hI.held
        clear hi
        rcases hcase with rfl | rfl | rfl | rfl | rfl | rfl
        · simp only [List.getElem?_toArray, List.getElem?_cons_zero, Option.some.injEq] at ho
          subst ho
          refine ⟨rfl, ?_⟩
          have e5 : A_.tmps[5]?.getD undef = .pointer (some ⟨w2.heap.size, 0, none⟩) := by rw [hI.low 5 (by decide)]; rfl
          clear hI hdep
          obtain ⟨⟨d0, d1⟩, _⟩ := HC.out w3 hh
          exact .run rfl (.agg #[.slice A4 n4 c4, .slice P4 m4 q4]) w3 (by simp [execOp, go_sem, Act.eval, *]) (Below.refl _ _) rfl
        · simp only [List.getElem?_toArray, List.getElem?_cons_succ, List.getElem?_cons_zero, Option.some.injEq] at ho
          subst ho
          refine ⟨rfl, ?_⟩
          have e6 : A_.tmps[6]?.getD undef = .slice (some { block := gO, off := offO }) L r := by rw [hI.low 6 (by decide)]; rfl
          clear hI hdep
          exact .run rfl (.slice (some { block := gO, off := offO }) L r) w3 (by simp [execOp, go_sem, Act.eval, e6]) (Below.refl _ _) rfl
        · simp only [List.getElem?_toArray, List.getElem?_cons_succ, List.getElem?_cons_zero, Option.some.injEq] at ho
          subst ho
          refine ⟨rfl, ?_⟩
          have e7 : A_.tmps[7]?.getD undef = .int .i64 (j : Int) := by rw [hI.low 7 (by decide)]; rfl
          clear hI hdep
          exact .run rfl (.int .i64 (j : Int)) w3 (by simp [execOp, go_sem, Act.eval, e7]) (Below.refl _ _) rfl
        · simp only [List.getElem?_toArray, List.getElem?_cons_succ, List.getElem?_cons_zero, Option.some.injEq] at ho
          subst ho
          refine ⟨rfl, ?_⟩
          have e20 : A_.tmps[20]?.getD undef = .slice (some { block := gO, off := offO }) L r := getD_of (hI.val_ (i := 1) rfl rfl (by decide) (hdep ⟨1, .data⟩ (by simp) rfl))
          have e21 : A_.tmps[21]?.getD undef = .int .i64 (j : Int) := getD_of (hI.val_ (i := 2) rfl rfl (by decide) (hdep ⟨2, .data⟩ (by simp) rfl))
          clear hI hdep
          exact .run rfl (.pointer (some ⟨gO, offO + j * 4, none⟩)) w3 (by simp [execOp, go_sem, Act.eval, e20, e21]; omega) (Below.refl _ _) rfl
        · simp only [List.getElem?_toArray, List.getElem?_cons_succ, List.getElem?_cons_zero, Option.some.injEq] at ho
          subst ho
          refine ⟨rfl, ?_⟩
          have e22 : A_.tmps[22]?.getD undef = .pointer (some ⟨gO, offO + j * 4, none⟩) := getD_of (hI.val_ (i := 3) rfl rfl (by decide) (hdep ⟨3, .data⟩ (by simp) rfl))
          clear hI hdep
          obtain ⟨_, x0, x1, x2, x3⟩ := HC.out w3 hh
          exact .run rfl (.agg #[.int .i64 o.op, .int .i64 o.cell, .int .i64 o.value, .slice K o.keep.length kc]) w3 (by simp [execOp, go_sem, Act.eval, e22, x0, x1, x2, x3]) (Below.refl _ _) rfl
        · simp only [List.getElem?_toArray, List.getElem?_cons_succ, List.getElem?_cons_zero, Option.some.injEq] at ho
          subst ho
          refine ⟨rfl, ?_⟩
          have e19 : A_.tmps[19]?.getD undef = .agg #[.slice A4 n4 c4, .slice P4 m4 q4] := getD_of (hI.val_ (i := 0) rfl rfl (by decide) (hdep ⟨0, .data⟩ (by simp) rfl))
          have e23 : A_.tmps[23]?.getD undef = .agg #[.int .i64 o.op, .int .i64 o.cell, .int .i64 o.value, .slice K o.keep.length kc] := getD_of (hI.val_ (i := 4) rfl rfl (by decide) (hdep ⟨4, .data⟩ (by simp) rfl))
          clear hI hdep
          exact .call rfl 15 #[.agg #[.slice A4 n4 c4, .slice P4 m4 q4], .agg #[.int .i64 o.op, .int .i64 o.cell, .int .i64 o.value, .slice K o.keep.length kc]] (by simp [go_sem, Act.eval, e19, e23]) (RgX.dkv_calls (do_any w3 (HD.out.keep hh) HOK.out.1 (HBL.out.keep hh) HOK.out.2) (by have := HB.out.size; have := HS.out; have := hh.size; omega))
      case fin =>
      intro A_ w3 hs hd hlow hS hok
      obtain ⟨_, hy24, A24, n24, c24, P24, m24, q24, rfl, h24, k24⟩ := hok 5 24 _ (by decide) rfl rfl
      obtain rfl : A_ = ⟨#[.int .i64 cs, .slice A n c, undef, undef, .pointer (some ⟨w.heap.size, 0, none⟩), .pointer (some ⟨w2.heap.size, 0, none⟩), .slice (some { block := gO, off := offO }) L r, .int .i64 (j : Int), .int .i64 cs, .int .i64 (k : Int), .agg #[.slice A2 n2 c2, .slice P2 m2 q2], .slice A n c, .slice (some { block := gO, off := offO }) L r, .int .i64 (j : Int), .slice (some { block := gO, off := offO }) L r, .int .i64 (L : Int), .bool true, u17, u18, .agg #[.slice A4 n4 c4, .slice P4 m4 q4], .slice (some { block := gO, off := offO }) L r, .int .i64 (j : Int), .pointer (some ⟨gO, offO + j * 4, none⟩), .agg #[.int .i64 o.op, .int .i64 o.cell, .int .i64 o.value, .slice K o.keep.length kc], .agg #[.slice A24 n24 c24, .slice P24 m24 q24], undef], []⟩ := act_ext hd hs (fun j hj => match j, hj with | 0, _ => (hlow 0 (by decide)).trans rfl | 1, _ => (hlow 1 (by decide)).trans rfl | 2, _ => (hlow 2 (by decide)).trans rfl | 3, _ => (hlow 3 (by decide)).trans rfl | 4, _ => (hlow 4 (by decide)).trans rfl | 5, _ => (hlow 5 (by decide)).trans rfl | 6, _ => (hlow 6 (by decide)).trans rfl | 7, _ => (hlow 7 (by decide)).trans rfl | 8, _ => (hlow 8 (by decide)).trans rfl | 9, _ => (hlow 9 (by decide)).trans rfl | 10, _ => (hlow 10 (by decide)).trans rfl | 11, _ => (hlow 11 (by decide)).trans rfl | 12, _ => (hlow 12 (by decide)).trans rfl | 13, _ => (hlow 13 (by decide)).trans rfl | 14, _ => (hlow 14 (by decide)).trans rfl | 15, _ => (hlow 15 (by decide)).trans rfl | 16, _ => (hlow 16 (by decide)).trans rfl | 17, _ => (hlow 17 (by decide)).trans rfl | 18, _ => (hlow 18 (by decide)).trans rfl | 19, _ => RgX.val_at (hok 0 19 _ (by decide) rfl rfl) | 20, _ => RgX.val_at (hok 1 20 _ (by decide) rfl rfl) | 21, _ => RgX.val_at (hok 2 21 _ (by decide) rfl rfl) | 22, _ => RgX.val_at (hok 3 22 _ (by decide) rfl rfl) | 23, _ => RgX.val_at (hok 4 23 _ (by decide) rfl rfl) | 24, _ => hy24 | 25, _ => (hlow 25 (by decide)).trans rfl | n + 26, h => absurd h (by show ¬ n + 26 < 26; omega))
      clear hs hd hlow hok hy24
      have hb2k := (hS.block _ (blk_lt HK.out)).trans HK.out
      refine dk_store rfl _ _ rfl w2.heap.size A24 n24 c24 P24 m24 q24 _ _ rfl rfl hb2k ?_
      intro W4 k4 ho4 hz4 hb4
      have HR4 := Lib.hid (And.intro (show DkAt (w.heap.size + 1) W4 (.agg #[.slice A24 n24 c24, .slice P24 m24 q24]) (DK.step dj1 o) from DkAt.other ⟨A24, n24, c24, P24, m24, q24, rfl, h24, k24⟩ hb2k (fun k hk _ => ho4 k hk) (Nat.le_refl _)) (And.intro k4 (And.intro ((HB.out.trans (hS.mono HB.out.size)).trans (hb4.mono (by omega))) (And.intro (show w6.heap.size ≤ W4.heap.size by have := HS.out; have := hS.size; omega) (fun b hb hl => (ho4 b hb).trans ((hS.block b (Nat.lt_of_lt_of_le hl HS.out)).trans (HF.out b hb hl)))))))
      clear h24 k24 k4 ho4 hz4 hb4 hb2k hS
      go_wp2_with fail
      go_roundw
      case rel => exact ⟨j + 1, A24, n24, c24, P24, m24, q24, by omega, by go_num, HR4.out.2.1, show DkAt _ _ _ _ by rw [HST.out]; exact HR4.out.1, HR4.out.2.2.1, HR4.out.2.2.2.1, HR4.out.2.2.2.2⟩
      case measure => simp [intOf]; omega
    · have dj : decide (j < L) = false := decide_eq_false hin
      obtain ⟨d0, d1⟩ := dk_two HK.out
      have HT := Lib.hid (show DK.steps (DK.new k) ((DK.ops zs).take j) = DK.built cs zs by rw [List.take_of_length_le (by rw [HL.out]; omega), ← HKK.out]; rfl)
      have HR0 := Lib.hid ((HF.out w.heap.size (by omega) (by omega)).trans HO.out.2.2.2.2)
      go_wp2_with (refine dk_store rfl _ _ rfl w.heap.size A4 n4 c4 P4 m4 q4 _ _ rfl rfl HR0.out ?_; intro w8 k8 ho8 hz8 hb8)
      refine bodyPost_ret (dk_ret rfl _ rfl k8) rfl ?_
      exact ⟨⟨_, rfl, HT.out ▸ HD.out.other HR0.out (fun k hk _ => ho8 k hk) (by omega)⟩, HB.out.trans hb8⟩
set_option maxHeartbeats 4000000 in
set_option maxRecDepth 100000 in
theorem refBuilt_any {A : Option Addr} {n c : Nat} {zs : List Int} (cs : Int) (w : World) (hc : I64 cs) (hz : Ints .i64 w.heap.size w A n zs) (h64 : ∀ x ∈ zs, I64 x) : Calls Try.prog 27 #[.int .i64 cs, .slice A n c] w fun e w' => (∃ y, e = .returned y ∧ DkAt 0 w' y (DK.built cs zs)) ∧ Below w.heap.size w w' := by
  obtain ⟨U, hU⟩ : ∃ U, w.alloc (.cells #[.slice none 0 0, .slice none 0 0] 26) = U := ⟨_, rfl⟩
  have hbu : Below w.heap.size w U := hU ▸ dk_box w _
  have ku : U.heap[w.heap.size]? = some (.cells #[.slice none 0 0, .slice none 0 0] 26 (0, 0)) := by rw [← hU]; exact dk_new_at rfl
  have hsu : U.heap.size = w.heap.size + 1 := by rw [← hU]; simp
  obtain ⟨k, hk⟩ : ∃ k : Nat, around cs 7 = (k : Int) := ⟨_, (Int.toNat_of_nonneg (around_in cs 7 (by omega)).1).symm⟩
  have hk7 : k < 7 := by have := (around_in cs 7 (by omega)).2; omega
  have HA := Lib.hid (fun V => around_any cs 7 hc (by omega) (by omega) V)
  have HKK := Lib.hid (show (around cs 7).toNat = k by rw [hk]; rfl)
  rw [hk] at HA
  have HNW := Lib.hid (refNew_any k (by omega) U)
  have HZ := Lib.hid (And.intro hz (And.intro h64 hc))
  have HU := Lib.hid (And.intro hbu (And.intro ku hsu))
  clear hz h64 hbu ku hsu hk hc
  go_enter Try.func27, Try.ntmps27
  go_upto_region 2 with (first | (go_at_call 11; refine (HA.out _).mono ?_; rintro e w2 ⟨rfl, rfl⟩) | (go_at_call 13; refine HNW.out.mono ?_; rintro e w2 ⟨⟨y, rfl, A2, n2, c2, P2, m2, q2, rfl, j1, j2⟩, hb2⟩; have HJ := Lib.hid (And.intro (show DkAt U.heap.size w2 (.agg #[.slice A2 n2 c2, .slice P2 m2 q2]) (DK.new k) from ⟨A2, n2, c2, P2, m2, q2, rfl, j1, j2⟩) hb2); clear j1 j2 hb2) | (refine dk_store rfl _ _ rfl w2.heap.size A2 n2 c2 P2 m2 q2 _ _ rfl rfl (dk_new_at rfl) ?_; intro w5 k5 ho5 hz5 hb5))
  have HX5 := Lib.hid (And.intro k5 (And.intro (HJ.out.1.keep ((dk_box w2 _).trans hb5)) (And.intro ((HJ.out.2.trans (((dk_box w2 _).trans hb5).mono HJ.out.2.size))) (show w5.heap.size = w2.heap.size + 1 by rw [hz5]; simp))))
  have hw5 : Below w.heap.size w w5 := HU.out.1.trans (HX5.out.2.2.1.mono HU.out.1.size)
  have HOP := Lib.hid (ops_any w5 (c := c) (by have := HZ.out.1.below hw5; exact this.more hw5.size) HZ.out.2.1)
  have HW5 := Lib.hid hw5
  clear k5 ho5 hz5 hb5 hw5 hU
  go_wp2_with (go_at_call 14; refine HOP.out.mono ?_; rintro e w6 ⟨⟨B, r, rfl, jo⟩, hb6⟩)
  have s5 := HX5.out.2.2.2
  have s5b := HX5.out.2.2.1.size
  have HO := Lib.hid (And.intro jo (And.intro (HW5.out.trans (hb6.mono HW5.out.size)) (And.intro ((hb6.block w2.heap.size (by omega)).trans HX5.out.1) (And.intro (HX5.out.2.1.keep hb6) ((hb6.block w.heap.size (by have := HU.out.2.2; omega)).trans ((HX5.out.2.2.1.block _ (by have := HU.out.2.2; omega)).trans HU.out.2.1))))))
  have hw26 : w2.heap.size < w6.heap.size := by have := hb6.size; omega
  have hw2 : w.heap.size < w2.heap.size := by have := HU.out.2.2; have := HJ.out.2.size; omega
  obtain ⟨L, hL⟩ : ∃ L, (DK.ops zs).length = L := ⟨_, rfl⟩
  rw [hL] at HO ⊢
  have HL := Lib.hid hL
  have hL20 : L ≤ 20 := by rw [← hL]; unfold DK.ops; rw [List.length_map, List.length_take]; omega
  clear jo hb6 s5 s5b hL HOP
  go_loopw [7] (fun i V => ∃ (j : Nat) (A n c P m q : _), j ≤ L ∧ i = .int .i64 (j : Int) ∧ Hid (V.heap[w2.heap.size]? = some (.cells #[.slice A n c, .slice P m q] 26 (0, 0))) ∧ Hid (DkAt 0 V (.agg #[.slice A n c, .slice P m q]) (DK.steps (DK.new k) ((DK.ops zs).take j))) ∧ Hid (Below w.heap.size w V) ∧ Hid (w6.heap.size ≤ V.heap.size) ∧ Hid (∀ b, b ≠ w2.heap.size → b < w6.heap.size → V.heap[b]? = w6.heap[b]?)) (fun i _ => L - (intOf i).toNat)
  case atStart => exact ⟨0, A2, n2, c2, P2, m2, q2, by omega, rfl, HO.out.2.2.1, DkAt.more HO.out.2.2.2.1 (by have := HU.out.2.2; omega), HO.out.2.1, Nat.le_refl _, fun _ _ _ => rfl⟩
  case round =>
    obtain ⟨j, A4, n4, c4, P4, m4, q4, hj, rfl, HK, HD, HB, HS, HF⟩ := hrel
    by_cases hin : j < L
    · have dj : decide (j < L) = true := decide_eq_true hin
      have HOV := Lib.hid (HO.out.1.other HO.out.2.2.1 HF.out)
      obtain ⟨gO, offO, o, K, kc, rfl, hgO, hoj, hbl, o0, o1, o2, o3⟩ := HOV.out.at_ hin
      have HC := Lib.hid (fun (V : World) (hV : Below wr.heap.size wr V) => And.intro (dk_two ((hV.block _ (blk_lt HK.out)).trans HK.out)) (And.intro ((hV.cell (p := ⟨gO, offO + j * 4, none⟩) hgO).trans o0) (And.intro ((hV.cell (p := ⟨gO, offO + j * 4 + 1, none⟩) hgO).trans o1) (And.intro ((hV.cell (p := ⟨gO, offO + j * 4 + 2, none⟩) hgO).trans o2) ((hV.cell (p := ⟨gO, offO + j * 4 + 3, none⟩) hgO).trans o3)))))
      have HOK := Lib.hid (And.intro (show DK.Ok (DK.steps (DK.new k) ((DK.ops zs).take j)) by rw [← HKK.out]; exact DK.ok_at j) (DK.ops_ok zs o (List.mem_of_getElem? hoj)))
      have HST := Lib.hid (DK.steps_take (d := DK.new k) hoj)
      have HBL := Lib.hid hbl
      clear hoj o0 o1 o2 o3 hbl
      obtain ⟨dj1, hdj1⟩ : ∃ d1, DK.steps (DK.new k) ((DK.ops zs).take j) = d1 := ⟨_, rfl⟩
      rw [hdj1] at HD HOK HST
      clear hdj1
      go_wp2_with fail
      refine RgX.tail 6 (fun i => ( 19 + i)) (fun ix_ => match ix_ with | 0 => .v (.agg #[.slice A4 n4 c4, .slice P4 m4 q4]) | 1 => .v (.slice (some { block := gO, off := offO }) L r) | 2 => .v (.int .i64 (j : Int)) | 3 => .v (.pointer (some ⟨gO, offO + j * 4, none⟩)) | 4 => .v (.agg #[.int .i64 o.op, .int .i64 o.cell, .int .i64 o.value, .slice K o.keep.length kc]) | 5 => .dkv 0 (DK.step dj1 o) | _ => .any) _ (by kernel_rfl) rfl rfl (by kernel_rfl) (by kernel_rfl) (fun i hi => by show ( 19 + i) < 26; (repeat' split) <;> omega) (fun i j hi hj => by show ( 19 + i) = ( 19 + j) → i = j; (repeat' split) <;> omega) ?step ?fin
      case step =>
        intro L_ A_ w3 ix op_ hi hI ho hdep
        have hcase : ix = 0 ∨ ix = 1 ∨ ix = 2 ∨ ix = 3 ∨ ix = 4 ∨ ix = 5 := by omega
        have hh := hI.held
        clear hi
        rcases hcase with rfl | rfl | rfl | rfl | rfl | rfl
        · simp only [List.getElem?_toArray, List.getElem?_cons_zero, Option.some.injEq] at ho
          subst ho
          refine ⟨rfl, ?_⟩
          have e5 : A_.tmps[5]?.getD undef = .pointer (some ⟨w2.heap.size, 0, none⟩) := by rw [hI.low 5 (by decide)]; rfl
          clear hI hdep
          obtain ⟨⟨d0, d1⟩, _⟩ := HC.out w3 hh
          exact .run rfl (.agg #[.slice A4 n4 c4, .slice P4 m4 q4]) w3 (by simp [execOp, go_sem, Act.eval, *]) (Below.refl _ _) rfl
        · simp only [List.getElem?_toArray, List.getElem?_cons_succ, List.getElem?_cons_zero, Option.some.injEq] at ho
          subst ho
          refine ⟨rfl, ?_⟩
          have e6 : A_.tmps[6]?.getD undef = .slice (some { block := gO, off := offO }) L r := by rw [hI.low 6 (by decide)]; rfl
          clear hI hdep
          exact .run rfl (.slice (some { block := gO, off := offO }) L r) w3 (by simp [execOp, go_sem, Act.eval, e6]) (Below.refl _ _) rfl
        · simp only [List.getElem?_toArray, List.getElem?_cons_succ, List.getElem?_cons_zero, Option.some.injEq] at ho
          subst ho
          refine ⟨rfl, ?_⟩
          have e7 : A_.tmps[7]?.getD undef = .int .i64 (j : Int) := by rw [hI.low 7 (by decide)]; rfl
          clear hI hdep
          exact .run rfl (.int .i64 (j : Int)) w3 (by simp [execOp, go_sem, Act.eval, e7]) (Below.refl _ _) rfl
        · simp only [List.getElem?_toArray, List.getElem?_cons_succ, List.getElem?_cons_zero, Option.some.injEq] at ho
          subst ho
          refine ⟨rfl, ?_⟩
          have e20 : A_.tmps[20]?.getD undef = .slice (some { block := gO, off := offO }) L r := getD_of (hI.val_ (i := 1) rfl rfl (by decide) (hdep ⟨1, .data⟩ (by simp) rfl))
          have e21 : A_.tmps[21]?.getD undef = .int .i64 (j : Int) := getD_of (hI.val_ (i := 2) rfl rfl (by decide) (hdep ⟨2, .data⟩ (by simp) rfl))
          clear hI hdep
          exact .run rfl (.pointer (some ⟨gO, offO + j * 4, none⟩)) w3 (by simp [execOp, go_sem, Act.eval, e20, e21]; omega) (Below.refl _ _) rfl
        · simp only [List.getElem?_toArray, List.getElem?_cons_succ, List.getElem?_cons_zero, Option.some.injEq] at ho
          subst ho
          refine ⟨rfl, ?_⟩
          have e22 : A_.tmps[22]?.getD undef = .pointer (some ⟨gO, offO + j * 4, none⟩) := getD_of (hI.val_ (i := 3) rfl rfl (by decide) (hdep ⟨3, .data⟩ (by simp) rfl))
          clear hI hdep
          obtain ⟨_, x0, x1, x2, x3⟩ := HC.out w3 hh
          exact .run rfl (.agg #[.int .i64 o.op, .int .i64 o.cell, .int .i64 o.value, .slice K o.keep.length kc]) w3 (by simp [execOp, go_sem, Act.eval, e22, x0, x1, x2, x3]) (Below.refl _ _) rfl
        · simp only [List.getElem?_toArray, List.getElem?_cons_succ, List.getElem?_cons_zero, Option.some.injEq] at ho
          subst ho
          refine ⟨rfl, ?_⟩
          have e19 : A_.tmps[19]?.getD undef = .agg #[.slice A4 n4 c4, .slice P4 m4 q4] := getD_of (hI.val_ (i := 0) rfl rfl (by decide) (hdep ⟨0, .data⟩ (by simp) rfl))
          have e23 : A_.tmps[23]?.getD undef = .agg #[.int .i64 o.op, .int .i64 o.cell, .int .i64 o.value, .slice K o.keep.length kc] := getD_of (hI.val_ (i := 4) rfl rfl (by decide) (hdep ⟨4, .data⟩ (by simp) rfl))
          clear hI hdep
          exact .call rfl 16 #[.agg #[.slice A4 n4 c4, .slice P4 m4 q4], .agg #[.int .i64 o.op, .int .i64 o.cell, .int .i64 o.value, .slice K o.keep.length kc]] (by simp [go_sem, Act.eval, e19, e23]) (RgX.dkv_calls (refDo_any w3 (HD.out.keep hh) HOK.out.1 (HBL.out.keep hh) HOK.out.2) (Nat.zero_le _))
      case fin =>
      intro A_ w3 hs hd hlow hS hok
      obtain ⟨_, hy24, A24, n24, c24, P24, m24, q24, rfl, h24, k24⟩ := hok 5 24 _ (by decide) rfl rfl
      obtain rfl : A_ = ⟨#[.int .i64 cs, .slice A n c, undef, undef, .pointer (some ⟨w.heap.size, 0, none⟩), .pointer (some ⟨w2.heap.size, 0, none⟩), .slice (some { block := gO, off := offO }) L r, .int .i64 (j : Int), .int .i64 cs, .int .i64 (k : Int), .agg #[.slice A2 n2 c2, .slice P2 m2 q2], .slice A n c, .slice (some { block := gO, off := offO }) L r, .int .i64 (j : Int), .slice (some { block := gO, off := offO }) L r, .int .i64 (L : Int), .bool true, u17, u18, .agg #[.slice A4 n4 c4, .slice P4 m4 q4], .slice (some { block := gO, off := offO }) L r, .int .i64 (j : Int), .pointer (some ⟨gO, offO + j * 4, none⟩), .agg #[.int .i64 o.op, .int .i64 o.cell, .int .i64 o.value, .slice K o.keep.length kc], .agg #[.slice A24 n24 c24, .slice P24 m24 q24], undef], []⟩ := act_ext hd hs (fun j hj => match j, hj with | 0, _ => (hlow 0 (by decide)).trans rfl | 1, _ => (hlow 1 (by decide)).trans rfl | 2, _ => (hlow 2 (by decide)).trans rfl | 3, _ => (hlow 3 (by decide)).trans rfl | 4, _ => (hlow 4 (by decide)).trans rfl | 5, _ => (hlow 5 (by decide)).trans rfl | 6, _ => (hlow 6 (by decide)).trans rfl | 7, _ => (hlow 7 (by decide)).trans rfl | 8, _ => (hlow 8 (by decide)).trans rfl | 9, _ => (hlow 9 (by decide)).trans rfl | 10, _ => (hlow 10 (by decide)).trans rfl | 11, _ => (hlow 11 (by decide)).trans rfl | 12, _ => (hlow 12 (by decide)).trans rfl | 13, _ => (hlow 13 (by decide)).trans rfl | 14, _ => (hlow 14 (by decide)).trans rfl | 15, _ => (hlow 15 (by decide)).trans rfl | 16, _ => (hlow 16 (by decide)).trans rfl | 17, _ => (hlow 17 (by decide)).trans rfl | 18, _ => (hlow 18 (by decide)).trans rfl | 19, _ => RgX.val_at (hok 0 19 _ (by decide) rfl rfl) | 20, _ => RgX.val_at (hok 1 20 _ (by decide) rfl rfl) | 21, _ => RgX.val_at (hok 2 21 _ (by decide) rfl rfl) | 22, _ => RgX.val_at (hok 3 22 _ (by decide) rfl rfl) | 23, _ => RgX.val_at (hok 4 23 _ (by decide) rfl rfl) | 24, _ => hy24 | 25, _ => (hlow 25 (by decide)).trans rfl | n + 26, h => absurd h (by show ¬ n + 26 < 26; omega))
      clear hs hd hlow hok hy24
      have hb2k := (hS.block _ (blk_lt HK.out)).trans HK.out
      refine dk_store rfl _ _ rfl w2.heap.size A24 n24 c24 P24 m24 q24 _ _ rfl rfl hb2k ?_
      intro W4 k4 ho4 hz4 hb4
      have HR4 := Lib.hid (And.intro (show DkAt 0 W4 (.agg #[.slice A24 n24 c24, .slice P24 m24 q24]) (DK.step dj1 o) from DkAt.other ⟨A24, n24, c24, P24, m24, q24, rfl, h24, k24⟩ hb2k (fun k hk _ => ho4 k hk) (Nat.le_refl _)) (And.intro k4 (And.intro ((HB.out.trans (hS.mono HB.out.size)).trans (hb4.mono (by omega))) (And.intro (show w6.heap.size ≤ W4.heap.size by have := HS.out; have := hS.size; omega) (fun b hb hl => (ho4 b hb).trans ((hS.block b (Nat.lt_of_lt_of_le hl HS.out)).trans (HF.out b hb hl)))))))
      clear h24 k24 k4 ho4 hz4 hb4 hb2k hS
      go_wp2_with fail
      go_roundw
      case rel => exact ⟨j + 1, A24, n24, c24, P24, m24, q24, by omega, by go_num, HR4.out.2.1, show DkAt _ _ _ _ by rw [HST.out]; exact HR4.out.1, HR4.out.2.2.1, HR4.out.2.2.2.1, HR4.out.2.2.2.2⟩
      case measure => simp [intOf]; omega
    · have dj : decide (j < L) = false := decide_eq_false hin
      obtain ⟨d0, d1⟩ := dk_two HK.out
      have HT := Lib.hid (show DK.steps (DK.new k) ((DK.ops zs).take j) = DK.built cs zs by rw [List.take_of_length_le (by rw [HL.out]; omega), ← HKK.out]; rfl)
      have HR0 := Lib.hid ((HF.out w.heap.size (by omega) (by omega)).trans HO.out.2.2.2.2)
      go_wp2_with (refine dk_store rfl _ _ rfl w.heap.size A4 n4 c4 P4 m4 q4 _ _ rfl rfl HR0.out ?_; intro w8 k8 ho8 hz8 hb8)
      refine bodyPost_ret (dk_ret rfl _ rfl k8) rfl ?_
      exact ⟨⟨_, rfl, HT.out ▸ HD.out.other HR0.out (fun k hk _ => ho8 k hk) (by omega)⟩, HB.out.trans hb8⟩
end Go.Proofs.Ytgdefhlcgmibcaa
