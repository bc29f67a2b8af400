/-
  What the reference's generator of runs keeps in memory. No function of the program.
  The pairs of dependent steps of a run, in the order in which they are yielded. Plain mathematics; no function of the program.
-/
import Derived.Test.YtlomhoohmcnniaaDoorK2

namespace Go.Proofs.YtlomhoohmcnniaaDoor
open Go Go.RowKit Go.Proofs

namespace DP
/-- The steps that the generator makes. -/
structure Gd (s : St) : Prop where
  n0 : 0 ≤ s.ev.n
  n4 : s.ev.n < 4
  ql : s.qs.length ≤ 1
  ml : s.ms.length ≤ 2
  cp : ∀ m ∈ s.ms, m.p = 0
end DP
/-- The step's rows are rows of the call's own. -/
structure GsI (lo : Nat) (V : World) (s : DP.St) : Prop where
  qs : V.ownsRow lo 59 7 (.slice s.qB s.qs.length s.qc) s.qs.length (RS.flat qaE s.qs)
  ms : V.ownsRow lo 46 5 (.slice s.sB s.ms.length s.sc) s.ms.length (RS.flat msE s.ms)
/-- The generator's rows: out, the messages in flight, the counts; the steps S (those of out, and one in work). -/
structure GSt (lo : Nat) (V : World) (ov : Value) (R S : List DP.St) (fv : Value) (F : List NM.Ms) (gc : Nat) : Prop where
  out : V.ownsRow lo 52 11 ov R.length (RS.flat stE R)
  fl : V.ownsRow lo 46 5 fv F.length (RS.flat msE F)
  cnt : ∃ cs : List Int, cs.length = 4 ∧ V.heap[gc]? = some (.cells (cs.map (Value.int .i64)).toArray 3 (0, 0))
  inn : ∀ s ∈ S, GsI lo V s ∧ DP.Gd s
  dis : ∀ s ∈ S, ∀ b, (Value.slice s.sB s.ms.length s.sc).ownBlock = some b → fv.ownBlock ≠ some b
  fz : ∀ m ∈ F, m.p = 0
  glo : lo ≤ gc
section
variable {lo gc : Nat} {V V' : World} {ov fv : Value} {R S : List DP.St} {F : List NM.Ms}
theorem ty_ne {V : World} {x y : Nat} {C D : Array Value} {t u : TypeId} {f f' : Nat × Nat} (h : V.heap[x]? = some (.cells C t f)) (k : V.heap[y]? = some (.cells D u f')) (htu : t ≠ u) : x ≠ y := by
  rintro rfl
  rw [h] at k
  injection k with k
  injection k with _ k
  exact htu k
/-- The state is told by the blocks of its own rows alone. -/
theorem GSt.congr (h : GSt lo V ov R S fv F gc) (h1 : ∀ (x : Nat) (C : Array Value), ov.ownBlock = some x → V.heap[x]? = some (Obj.cells C 52 (0, 0)) → V'.heap[x]? = V.heap[x]?) (h2 : ∀ (x : Nat) (C : Array Value), fv.ownBlock = some x → V.heap[x]? = some (Obj.cells C 46 (0, 0)) → V'.heap[x]? = V.heap[x]?)
    (h3 : ∀ (C : Array Value), V.heap[gc]? = some (Obj.cells C 3 (0, 0)) → V'.heap[gc]? = V.heap[gc]?) (h4 : ∀ (x : Nat) (C : Array Value), V.heap[x]? = some (Obj.cells C 59 (0, 0)) → V'.heap[x]? = V.heap[x]?)
    (h5 : ∀ s ∈ S, ∀ (x : Nat) (C : Array Value), (Value.slice s.sB s.ms.length s.sc).ownBlock = some x → V.heap[x]? = some (Obj.cells C 46 (0, 0)) → fv.ownBlock ≠ some x → V'.heap[x]? = V.heap[x]?) : GSt lo V' ov R S fv F gc := by
  refine ⟨row_keep h.out fun x hx => ?_, row_keep h.fl fun x hx => ?_, ?_, fun s hs => ⟨⟨row_keep (h.inn s hs).1.qs fun x hx => ?_, row_keep (h.inn s hs).1.ms fun x hx => ?_⟩, (h.inn s hs).2⟩, h.dis, h.fz, h.glo⟩
  · obtain ⟨_, _, C, hC⟩ := row_blk h.out hx
    exact h1 x C hx hC
  · obtain ⟨_, _, C, hC⟩ := row_blk h.fl hx
    exact h2 x C hx hC
  · obtain ⟨cs, hl, hc⟩ := h.cnt
    exact ⟨cs, hl, (h3 _ hc).trans hc⟩
  · obtain ⟨_, _, C, hC⟩ := row_blk (h.inn s hs).1.qs hx
    exact h4 x C hC
  · obtain ⟨_, _, C, hC⟩ := row_blk (h.inn s hs).1.ms hx
    exact h5 s hs x C hx hC (h.dis s hs x hx)
/-- Growth keeps it. -/
theorem GSt.below (h : GSt lo V ov R S fv F gc) (hb : Below V.heap.size V V') : GSt lo V' ov R S fv F gc :=
  h.congr (fun x _ _ hc => hb.block x (heap_lt hc)) (fun x _ _ hc => hb.block x (heap_lt hc)) (fun _ hc => hb.block _ (heap_lt hc)) (fun x _ hc => hb.block x (heap_lt hc)) (fun _ _ x _ _ hc _ => hb.block x (heap_lt hc))
/-- A change in a block of another type, that is no step's or not out's, keeps it. -/
theorem GSt.other (h : GSt lo V ov R S fv F gc) {b : Nat} {C : Array Value} {t : TypeId} {f : Nat × Nat} (hb : V.heap[b]? = some (.cells C t f)) (ht : t ≠ 46 ∧ t ≠ 59 ∧ t ≠ 3) (ho : ov.ownBlock ≠ some b) (hk : ∀ x, x ≠ b → x < V.heap.size → V'.heap[x]? = V.heap[x]?) : GSt lo V' ov R S fv F gc :=
  h.congr (fun x _ hx hc => hk x (by rintro rfl; exact ho hx) (heap_lt hc)) (fun x _ _ hc => hk x (ty_ne hc hb (Ne.symm ht.1)) (heap_lt hc)) (fun _ hc => hk _ (ty_ne hc hb (Ne.symm ht.2.2)) (heap_lt hc)) (fun x _ hc => hk x (ty_ne hc hb (Ne.symm ht.2.1)) (heap_lt hc)) (fun _ _ x _ _ hc _ => hk x (ty_ne hc hb (Ne.symm ht.1)) (heap_lt hc))
theorem GSt.count (h : GSt lo V ov R S fv F gc) {j : Nat} (hj : j < 4) : ∃ c : Int, V.cell? ⟨gc, j, none⟩ = some (.int .i64 c) ∧ V.frozen? ⟨gc, j, none⟩ = false ∧ ∀ u : Int, GSt lo (V.setCell ⟨gc, j, none⟩ (.int .i64 u)) ov R S fv F gc := by
  obtain ⟨cs, hl, hc⟩ := h.cnt
  refine ⟨cs[j]'(by omega), ?_, by simp [World.frozen?, hc], fun u => ?_⟩
  · rw [cell_of_row V gc j _ _ (0, 0) hc]
    simp [hl, hj]
  · have hk : ∀ x, x ≠ gc → (V.setCell ⟨gc, j, none⟩ (.int .i64 u)).heap[x]? = V.heap[x]? := fun x hx => Below.heap_setCell _ _ _ _ hx
    refine ⟨row_keep h.out fun x hx => ?_, row_keep h.fl fun x hx => ?_, ⟨cs.set j u, by rw [List.length_set, hl], ?_⟩, fun s hs => ⟨⟨row_keep (h.inn s hs).1.qs fun x hx => ?_, row_keep (h.inn s hs).1.ms fun x hx => ?_⟩, (h.inn s hs).2⟩, h.dis, h.fz, h.glo⟩
    · obtain ⟨_, _, C, hC⟩ := row_blk h.out hx
      exact hk x (ty_ne hC hc (by decide))
    · obtain ⟨_, _, C, hC⟩ := row_blk h.fl hx
      exact hk x (ty_ne hC hc (by decide))
    · simp only [World.setCell, Array.getElem?_modify, ↓reduceIte, hc, Option.map_some, Option.some.injEq, Obj.cells.injEq, and_true]
      apply Array.ext'
      simp [List.map_set]
    · obtain ⟨_, _, C, hC⟩ := row_blk (h.inn s hs).1.qs hx
      exact hk x (ty_ne hC hc (by decide))
    · obtain ⟨_, _, C, hC⟩ := row_blk (h.inn s hs).1.ms hx
      exact hk x (ty_ne hC hc (by decide))
/-- The start. -/
theorem GSt.start (w : World) : GSt w.heap.size (w.alloc (.cells #[.int .i64 0, .int .i64 0, .int .i64 0, .int .i64 0] 3)) (.slice none 0 0) [] [] (.slice none 0 0) [] w.heap.size :=
  ⟨World.ownsRow_nil _ _ _ _, World.ownsRow_nil _ _ _ _, ⟨[0, 0, 0, 0], rfl, World.alloc_heap_new w _⟩, (fun _ h => by cases h), (fun _ h => by cases h), (fun _ h => by cases h), Nat.le_refl _⟩
end
/-- A step without rows. -/
structure Bare (s : DP.St) : Prop where
  q : s.qs = []
  qB : s.qB = none
  qc : s.qc = 0
  m : s.ms = []
  sB : s.sB = none
  sc : s.sc = 0
  n0 : 0 ≤ s.ev.n
  n4 : s.ev.n < 4
theorem Bare.inn {s : DP.St} (h : Bare s) (lo : Nat) (V : World) : GsI lo V s ∧ DP.Gd s := by
  obtain ⟨h1, h2, h3, h4, h5, h6, h7, h8⟩ := h
  refine ⟨⟨?_, ?_⟩, ⟨h7, h8, by rw [h1]; simp, by rw [h4]; simp, by rw [h4]; simp⟩⟩
  · rw [h1, h2, h3]
    exact World.ownsRow_nil _ _ _ _
  · rw [h4, h5, h6]
    exact World.ownsRow_nil _ _ _ _
theorem Bare.dis {s : DP.St} (h : Bare s) : ∀ b, (Value.slice s.sB s.ms.length s.sc).ownBlock = some b → False := fun b e => by
  rw [h.sB] at e
  cases e
/-- A round's state: the step's box at b, the cause's box behind it. -/
structure Rd (lo : Nat) (V : World) (b : Nat) (s : DP.St) (ov : Value) (R : List DP.St) (fv : Value) (F : List NM.Ms) (gc : Nat) : Prop where
  g : GSt lo V ov R (R ++ [s]) fv F gc
  x : StBx V b s
  y : ∃ c h t : Int, V.heap[b + 1]? = some (.cells #[.int .i64 c, .int .i64 h, .int .i64 t] 44 (0, 0))
  no : ov.ownBlock ≠ some b
  ds : ∀ r ∈ R, ∀ x, (Value.slice r.sB r.ms.length r.sc).ownBlock = some x → (Value.slice s.sB s.ms.length s.sc).ownBlock ≠ some x
section
variable {lo gc b : Nat} {V V' : World} {ov fv : Value} {R S : List DP.St} {F : List NM.Ms} {s s' : DP.St}
theorem GSt.more (h : GSt lo V ov R S fv F gc) (hs : GsI lo V s ∧ DP.Gd s) (hd : ∀ b, (Value.slice s.sB s.ms.length s.sc).ownBlock = some b → fv.ownBlock ≠ some b) : GSt lo V ov R (S ++ [s]) fv F gc :=
  ⟨h.out, h.fl, h.cnt, fun x hx => by
    rcases List.mem_append.1 hx with hx | hx
    · exact h.inn x hx
    · rw [List.mem_singleton] at hx
      subst hx
      exact hs, fun x hx => by
    rcases List.mem_append.1 hx with hx | hx
    · exact h.dis x hx
    · rw [List.mem_singleton] at hx
      subst hx
      exact hd, h.fz, h.glo⟩
theorem GSt.less (h : GSt lo V ov R (S ++ [s]) fv F gc) : GSt lo V ov R S fv F gc :=
  ⟨h.out, h.fl, h.cnt, fun x hx => h.inn x (List.mem_append_left _ hx), fun x hx => h.dis x (List.mem_append_left _ hx), h.fz, h.glo⟩
theorem GSt.last (h : GSt lo V ov R (S ++ [s]) fv F gc) : (GsI lo V s ∧ DP.Gd s) ∧ ∀ b, (Value.slice s.sB s.ms.length s.sc).ownBlock = some b → fv.ownBlock ≠ some b :=
  ⟨h.inn s (List.mem_append_right _ (by simp)), h.dis s (List.mem_append_right _ (by simp))⟩
theorem Rd.below (h : Rd lo V b s ov R fv F gc) (hb : Below V.heap.size V V') : Rd lo V' b s ov R fv F gc := by
  obtain ⟨c, hh, t, hy⟩ := h.y
  exact ⟨h.g.below hb, h.x.keep h.x.lt hb, ⟨c, hh, t, (hb.block _ (heap_lt hy)).trans hy⟩, h.no, h.ds⟩
theorem blk_set {W : World} {g j : Nat} {C : Array Value} {t : TypeId} {fr : Nat × Nat} {u : Value} (h : W.heap[g]? = some (.cells C t fr)) : (W.setCell ⟨g, j, none⟩ u).heap[g]? = some (.cells (C.setIfInBounds j u) t fr) := by
  simp only [World.setCell, Array.getElem?_modify, ↓reduceIte, h, Option.map_some]
  rfl
/-- A field of the step's box is set. -/
theorem Rd.put (h : Rd lo V b s ov R fv F gc) {j : Nat} {u : Value} (hx : StBx (V.setCell ⟨b, j, none⟩ u) b s') (hs : ∀ W, GsI lo W s → GsI lo W s') (hg : DP.Gd s') (hd : (Value.slice s'.sB s'.ms.length s'.sc).ownBlock = (Value.slice s.sB s.ms.length s.sc).ownBlock) : Rd lo (V.setCell ⟨b, j, none⟩ u) b s' ov R fv F gc := by
  have hk : ∀ x, x ≠ b → (V.setCell ⟨b, j, none⟩ u).heap[x]? = V.heap[x]? := fun x hx => Below.heap_setCell _ _ _ _ hx
  obtain ⟨c, hh, t, hy⟩ := h.y
  have hg2 := h.g.other (V' := V.setCell ⟨b, j, none⟩ u) h.x ⟨by decide, by decide, by decide⟩ h.no (fun x hx _ => hk x hx)
  obtain ⟨⟨l1, _⟩, l2⟩ := hg2.last
  exact ⟨hg2.less.more ⟨hs _ l1, hg⟩ (fun b e => l2 b (by rw [← hd]; exact e)), hx, ⟨c, hh, t, (hk _ (by omega)).trans hy⟩, h.no, fun r hr x e => by rw [hd]; exact h.ds r hr x e⟩
/-- A field of a step without rows is set. -/
theorem Rd.set (h : Rd lo V b s ov R fv F gc) (hs : Bare s) (hs' : Bare s') {j : Nat} {u : Value} (e : (#[.int .i64 s.ev.k, .int .i64 s.ev.n, .int .i64 s.ev.a, .int .i64 s.ev.m.c, .int .i64 s.ev.m.h, .int .i64 s.ev.m.t, .int .i64 s.ev.m.i, .int .i64 s.ev.m.p, .slice s.qB s.qs.length s.qc, .bool s.ob, .slice s.sB s.ms.length s.sc] : Array Value).setIfInBounds j u = #[.int .i64 s'.ev.k, .int .i64 s'.ev.n, .int .i64 s'.ev.a, .int .i64 s'.ev.m.c, .int .i64 s'.ev.m.h, .int .i64 s'.ev.m.t, .int .i64 s'.ev.m.i, .int .i64 s'.ev.m.p, .slice s'.qB s'.qs.length s'.qc, .bool s'.ob, .slice s'.sB s'.ms.length s'.sc]) : Rd lo (V.setCell ⟨b, j, none⟩ u) b s' ov R fv F gc := by
  refine h.put ?_ (fun W _ => (hs'.inn lo W).1) (hs'.inn lo V).2 ?_
  · have := blk_set (j := j) (u := u) h.x
    rw [e] at this
    exact this
  · rw [hs.sB, hs'.sB]
    rfl
/-- Element j of the messages in flight. -/
theorem GSt.flight {A : Option Addr} {n c : Nat} (h : GSt lo V ov R S (.slice A n c) F gc) (hn : n = F.length) {j : Nat} (hj : j < n) : ∃ (g : Nat) (m : NM.Ms), A = some ⟨g, 0, none⟩ ∧ g < V.heap.size ∧ (∃ C, V.heap[g]? = some (.cells C 46 (0, 0))) ∧ V.cell? ⟨g, j * 5, none⟩ = some (.int .i64 m.c) ∧ V.cell? ⟨g, j * 5 + 1, none⟩ = some (.int .i64 m.h) ∧ V.cell? ⟨g, j * 5 + 2, none⟩ = some (.int .i64 m.t) ∧ V.cell? ⟨g, j * 5 + 3, none⟩ = some (.int .i64 m.i) ∧ V.cell? ⟨g, j * 5 + 4, none⟩ = some (.int .i64 m.p) := by
  subst hn
  have h1 : Mss V A F.length c F := RS.Sl.of_own (E := msE) h.fl rfl
  obtain ⟨g, e, hg, q0, q1, q2, q3, q4⟩ := ms_at h1 (List.getElem?_eq_getElem hj)
  subst e
  obtain ⟨_, _, hC⟩ := row_blk h.fl (x := g) rfl
  exact ⟨g, F[j], rfl, hg, hC, q0, q1, q2, q3, q4⟩
theorem grown_kept_ty {W w7 : World} {v : Value} {lo x k size : Nat} {e : TypeId} {xs : List Value} (hown : W.ownsRow lo e size v k xs) (hg : W.grownBy w7 v.ownBlock) {C : Array Value} {t : TypeId} {f : Nat × Nat} (hx : W.heap[x]? = some (.cells C t f)) (ht : t ≠ e) : w7.heap[x]? = W.heap[x]? := by
  refine hg.block x (heap_lt hx) fun e2 => ?_
  obtain ⟨_, _, D, hD⟩ := row_blk hown e2.symm
  exact ty_ne hx hD ht rfl
/-- A message is appended to the step's own. -/
theorem Rd.sent (h : Rd lo V b s ov R fv F gc) {w7 : World} {A' : Option Addr} {c' : Nat} {m : NM.Ms} (hm : m.p = 0) (hl : s.ms.length ≤ 1)
    (hown : w7.ownsRow lo 46 5 (.slice A' (s.ms.length + 1) c') (s.ms.length + 1) (RS.flat msE s.ms ++ msE.f m)) (hg : V.grownBy w7 (Value.slice s.sB s.ms.length s.sc).ownBlock) (hn : ∀ x, (Value.slice A' (s.ms.length + 1) c').ownBlock = some x → (Value.slice s.sB s.ms.length s.sc).ownBlock = some x ∨ V.heap.size ≤ x) :
    Rd lo (w7.setCell ⟨b, 10, none⟩ (.slice A' (s.ms.length + 1) c')) b ⟨s.ev, s.qB, s.qc, s.qs, s.ob, A', c', s.ms ++ [m]⟩ ov R fv F gc := by
  obtain ⟨⟨l1, l3⟩, l2⟩ := h.g.last
  have kt : ∀ {x : Nat} {C : Array Value} {t : TypeId} {f : Nat × Nat}, V.heap[x]? = some (.cells C t f) → t ≠ 46 → w7.heap[x]? = V.heap[x]? := fun hx ht => grown_kept_ty l1.ms hg hx ht
  have hs7 := hg.size
  have hb7 : w7.heap[b]? = V.heap[b]? := kt h.x (by decide)
  have hk : ∀ x, x ≠ b → (w7.setCell ⟨b, 10, none⟩ (.slice A' (s.ms.length + 1) c')).heap[x]? = w7.heap[x]? := fun x hx => Below.heap_setCell _ _ _ _ hx
  have hx7 : StBx w7 b s := hb7.trans h.x
  have hlen : (s.ms ++ [m]).length = s.ms.length + 1 := by simp
  have hfl : RS.flat msE (s.ms ++ [m]) = RS.flat msE s.ms ++ msE.f m := by rw [RS.flat_append, RS.flat_one_]
  have hold : ∀ x, x < V.heap.size → (Value.slice s.sB s.ms.length s.sc).ownBlock ≠ some x → (Value.slice A' (s.ms.length + 1) c').ownBlock ≠ some x := fun x hx hne e => by
    rcases hn x e with h1 | h1
    · exact hne h1
    · omega
  have hnb : ∀ x, (Value.slice A' (s.ms.length + 1) c').ownBlock = some x → x ≠ b := fun x e => by
    obtain ⟨_, _, D, hD⟩ := row_blk hown e
    exact ty_ne hD hx7 (by decide)
  have hg2 : GSt lo (w7.setCell ⟨b, 10, none⟩ (.slice A' (s.ms.length + 1) c')) ov R R fv F gc := by
    refine h.g.less.congr (fun x C hx hc => ?_) (fun x C hx hc => ?_) (fun C hc => ?_) (fun x C hc => ?_) (fun r hr x C hx hc hne => ?_)
    · rw [hk x (by rintro rfl; exact h.no hx), kt hc (by decide)]
    · rw [hk x (ty_ne hc h.x (by decide)), hg.block x (heap_lt hc) fun e => l2 x e.symm hx]
    · rw [hk _ (ty_ne hc h.x (by decide)), kt hc (by decide)]
    · rw [hk _ (ty_ne hc h.x (by decide)), kt hc (by decide)]
    · rw [hk _ (ty_ne hc h.x (by decide)), hg.block x (heap_lt hc) fun e => h.ds r hr x hx e.symm]
  obtain ⟨c, hh, t, hy⟩ := h.y
  have hs2 : V.heap[b + 1]? = _ := hy
  refine ⟨hg2.more ⟨⟨?_, ?_⟩, ⟨l3.n0, l3.n4, l3.ql, by rw [hlen]; omega, fun x hx => ?_⟩⟩ fun x e e2 => ?_, ?_, ⟨c, hh, t, ?_⟩, h.no, fun r hr x e e2 => ?_⟩
  · refine row_keep l1.qs fun x hx => ?_
    obtain ⟨_, _, D, hD⟩ := row_blk l1.qs hx
    rw [hk _ (ty_ne hD h.x (by decide)), kt hD (by decide)]
  · rw [hlen, hfl]
    exact row_keep hown fun x hx => hk x (hnb x hx)
  · rcases List.mem_append.1 hx with hx | hx
    · exact l3.cp x hx
    · rw [List.mem_singleton] at hx
      subst hx
      exact hm
  · rw [hlen] at e
    obtain ⟨_, q2, _⟩ := row_blk h.g.fl e2
    exact hold x q2 (fun e3 => l2 x e3 e2) e
  · have h9 := blk_set (j := 10) (u := .slice A' (s.ms.length + 1) c') hx7
    unfold StBx
    rw [hlen]
    exact h9
  · rw [hk _ (by omega), kt hy (by decide)]
    exact hy
  · rw [hlen] at e2
    obtain ⟨_, q2, _⟩ := row_blk (h.g.inn r (List.mem_append_left _ hr)).1.ms e
    exact hold x q2 (fun e3 => h.ds r hr x e e3) e2
/-- A message is appended to those in flight. -/
theorem Rd.fly (h : Rd lo V b s ov R fv F gc) {w7 : World} {A' : Option Addr} {c' : Nat} {m : NM.Ms} (hm : m.p = 0)
    (hown : w7.ownsRow lo 46 5 (.slice A' (F.length + 1) c') (F.length + 1) (RS.flat msE F ++ msE.f m)) (hg : V.grownBy w7 fv.ownBlock) (hn : ∀ x, (Value.slice A' (F.length + 1) c').ownBlock = some x → fv.ownBlock = some x ∨ V.heap.size ≤ x) :
    Rd lo w7 b s ov R (.slice A' (F.length + 1) c') (F ++ [m]) gc := by
  have kt : ∀ {x : Nat} {C : Array Value} {t : TypeId} {f : Nat × Nat}, V.heap[x]? = some (.cells C t f) → t ≠ 46 → w7.heap[x]? = V.heap[x]? := fun hx ht => grown_kept_ty h.g.fl hg hx ht
  have hlen : (F ++ [m]).length = F.length + 1 := by simp
  obtain ⟨c, hh, t, hy⟩ := h.y
  refine ⟨⟨?_, ?_, ?_, fun x hx => ⟨⟨?_, ?_⟩, (h.g.inn x hx).2⟩, fun x hx y e e2 => ?_, fun x hx => ?_, h.g.glo⟩, (kt h.x (by decide)).trans h.x, ⟨c, hh, t, (kt hy (by decide)).trans hy⟩, h.no, h.ds⟩
  · refine row_keep h.g.out fun x hx => ?_
    obtain ⟨_, _, D, hD⟩ := row_blk h.g.out hx
    exact kt hD (by decide)
  · rw [hlen, RS.flat_append, RS.flat_one_]
    exact hown
  · obtain ⟨cs, q1, q2⟩ := h.g.cnt
    exact ⟨cs, q1, (kt q2 (by decide)).trans q2⟩
  · refine row_keep (h.g.inn x hx).1.qs fun y hy => ?_
    obtain ⟨_, _, D, hD⟩ := row_blk (h.g.inn x hx).1.qs hy
    exact kt hD (by decide)
  · refine row_keep (h.g.inn x hx).1.ms fun y hy => ?_
    obtain ⟨_, q, _⟩ := row_blk (h.g.inn x hx).1.ms hy
    exact hg.block y q fun e => h.g.dis x hx y hy e.symm
  · obtain ⟨_, q, _⟩ := row_blk (h.g.inn x hx).1.ms e
    rcases hn y e2 with h1 | h1
    · exact h.g.dis x hx y e h1
    · omega
  · rcases List.mem_append.1 hx with hx | hx
    · exact h.g.fz x hx
    · rw [List.mem_singleton] at hx
      subst hx
      exact hm
/-- The step's question. -/
theorem Rd.ask (h : Rd lo V b s ov R fv F gc) {w7 : World} {A' : Option Addr} {c' : Nat} {q : DP.Qa}
    (hown : w7.ownsRow lo 59 7 (.slice A' 1 c') 1 (qaE.f q)) (hg : V.grownBy w7 none) :
    Rd lo (w7.setCell ⟨b, 8, none⟩ (.slice A' 1 c')) b ⟨s.ev, A', c', [q], s.ob, s.sB, s.sc, s.ms⟩ ov R fv F gc := by
  have h2 : Rd lo w7 b s ov R fv F gc := h.below ⟨hg.os, hg.tape, hg.output, hg.size, fun x hx => hg.block x hx (by simp)⟩
  obtain ⟨c, hh, t, hy⟩ := h2.y
  have hk : ∀ x, x ≠ b → (w7.setCell ⟨b, 8, none⟩ (.slice A' 1 c')).heap[x]? = w7.heap[x]? := fun x hx => Below.heap_setCell _ _ _ _ hx
  have hg2 := h2.g.other (V' := w7.setCell ⟨b, 8, none⟩ (.slice A' 1 c')) h2.x ⟨by decide, by decide, by decide⟩ h2.no (fun x hx _ => hk x hx)
  obtain ⟨⟨l1, l3⟩, l2⟩ := hg2.last
  refine ⟨hg2.less.more ⟨⟨?_, l1.ms⟩, ⟨l3.n0, l3.n4, Nat.le_refl _, l3.ml, l3.cp⟩⟩ l2, ?_, ⟨c, hh, t, (hk _ (by omega)).trans hy⟩, h2.no, h2.ds⟩
  · refine row_keep (xs := qaE.f q) hown fun x hx => ?_
    obtain ⟨_, _, D, hD⟩ := row_blk hown hx
    exact hk x (ty_ne hD h2.x (by decide))
  · exact blk_set (j := 8) (u := .slice A' 1 c') h2.x
/-- The step goes to the others. -/
theorem Rd.done (h : Rd lo V b s ov R fv F gc) {w7 : World} {A' : Option Addr} {c' : Nat}
    (hown : w7.ownsRow lo 52 11 (.slice A' (R.length + 1) c') (R.length + 1) (RS.flat stE R ++ stE.f s)) (hg : V.grownBy w7 ov.ownBlock) :
    GSt lo w7 (.slice A' (R.length + 1) c') (R ++ [s]) (R ++ [s]) fv F gc := by
  have kt : ∀ {x : Nat} {C : Array Value} {t : TypeId} {f : Nat × Nat}, V.heap[x]? = some (.cells C t f) → t ≠ 52 → w7.heap[x]? = V.heap[x]? := fun hx ht => grown_kept_ty h.g.out hg hx ht
  have hlen : (R ++ [s]).length = R.length + 1 := by simp
  refine ⟨?_, ?_, ?_, fun x hx => ⟨⟨?_, ?_⟩, (h.g.inn x hx).2⟩, h.g.dis, h.g.fz, h.g.glo⟩
  · rw [hlen, RS.flat_append, RS.flat_one_]
    exact hown
  · refine row_keep h.g.fl fun x hx => ?_
    obtain ⟨_, _, D, hD⟩ := row_blk h.g.fl hx
    exact kt hD (by decide)
  · obtain ⟨cs, q1, q2⟩ := h.g.cnt
    exact ⟨cs, q1, (kt q2 (by decide)).trans q2⟩
  · refine row_keep (h.g.inn x hx).1.qs fun y hy => ?_
    obtain ⟨_, _, D, hD⟩ := row_blk (h.g.inn x hx).1.qs hy
    exact kt hD (by decide)
  · refine row_keep (h.g.inn x hx).1.ms fun y hy => ?_
    obtain ⟨_, _, D, hD⟩ := row_blk (h.g.inn x hx).1.ms hy
    exact kt hD (by decide)
/-- What the generator hands back is a run. -/
theorem GSt.run {A : Option Addr} {c : Nat} (h : GSt lo V (.slice A R.length c) R R fv F gc) (hl : R.length ≤ 14) : Run V A R.length c R := by
  refine ⟨RS.Sl.of_own (E := stE) h.out rfl, fun s hs => ?_, by omega⟩
  obtain ⟨⟨q1, q2⟩, q3⟩ := h.inn s hs
  exact ⟨RS.Sl.of_own (E := qaE) q1 rfl, RS.Sl.of_own (E := msE) q2 rfl, by have := q3.ql; omega, by have := q3.ml; omega⟩
theorem Rd.box7 (h : Rd lo V b s ov R fv F gc) {w7 : World} (hg : V.grownBy w7 (Value.slice s.sB s.ms.length s.sc).ownBlock) : StBx w7 b s := (grown_kept_ty h.g.last.1.1.ms hg h.x (by decide)).trans h.x
end
theorem info_msD : (Tryd.prog.info? 46).map (fun i => (i.zero, i.size, i.bytes)) = some (some (.agg #[.int .i64 0, .int .i64 0, .int .i64 0, .int .i64 0, .int .i64 0]), 5, 40) := by kernel_rfl
theorem info_qaD : (Tryd.prog.info? 59).map (fun i => (i.zero, i.size, i.bytes)) = some (some (.agg #[.int .i64 0, .int .i64 0, .int .i64 0, .int .i64 0, .int .i64 0, .int .i64 0, .int .i64 0]), 7, 56) := by kernel_rfl
theorem info_stD : (Tryd.prog.info? 52).map (fun i => (i.zero, i.size, i.bytes)) = some (some (.agg #[.int .i64 0, .int .i64 0, .int .i64 0, .int .i64 0, .int .i64 0, .int .i64 0, .int .i64 0, .int .i64 0, .slice none 0 0, .bool false, .slice none 0 0]), 11, 120) := by kernel_rfl
end Go.Proofs.YtlomhoohmcnniaaDoor

namespace Go.Proofs.YtlomhoohmcnniaaDoor.DP
open Go.Proofs.YtlomhoohmcnniaaDoor

def depAt (R : List St) (i k : Nat) : Bool := match R[i]?, R[k]? with
  | some a, some b => dep a b
  | _, _ => false
/-- The pairs of i with those below k. -/
def prIn (R : List St) (i k : Nat) : List (Nat × Nat) := ((List.range k).filter fun j => decide (i < j) && depAt R i j).map fun j => (i, j)
/-- The pairs of the steps below i. -/
def prTo (R : List St) (i : Nat) : List (Nat × Nat) := (List.range i).flatMap fun a => prIn R a R.length
def prs (R : List St) : List (Nat × Nat) := prTo R R.length
theorem prTo_succ (R : List St) (i : Nat) : prTo R (i + 1) = prTo R i ++ prIn R i R.length := by
  unfold prTo
  rw [List.range_succ, List.flatMap_append]
  simp
theorem prIn_start (R : List St) (i k : Nat) (h : k ≤ i + 1) : prIn R i k = [] := by
  unfold prIn
  rw [List.filter_eq_nil_iff.2, List.map_nil]
  intro x hx
  have := List.mem_range.1 hx
  rw [decide_eq_false (show ¬ i < x by omega)]
  simp
theorem prIn_succ (R : List St) (i k : Nat) (h : i < k) : prIn R i (k + 1) = prIn R i k ++ (if depAt R i k then [(i, k)] else []) := by
  unfold prIn
  rw [List.range_succ, List.filter_append, List.map_append]
  congr 1
  cases hd : depAt R i k with
  | true =>
    rw [if_pos rfl, List.filter_cons_of_pos (by simp [h, hd])]
    rfl
  | false =>
    rw [if_neg (by simp), List.filter_cons_of_neg (by simp [h, hd])]
    rfl
theorem prIn_len (R : List St) (i k : Nat) : (prIn R i k).length ≤ k := by
  unfold prIn
  rw [List.length_map]
  have := List.length_filter_le (fun j => decide (i < j) && depAt R i j) (List.range k)
  rwa [List.length_range] at this
theorem prTo_len (R : List St) (i : Nat) : (prTo R i).length ≤ i * R.length := by
  induction i with
  | zero => simp [prTo]
  | succ i ih =>
    rw [prTo_succ, List.length_append, Nat.succ_mul]
    have := prIn_len R i R.length
    omega
theorem depAt_eq {R : List St} {i k : Nat} {a b : St} (ha : R[i]? = some a) (hb : R[k]? = some b) : depAt R i k = dep a b := by
  unfold depAt
  rw [ha, hb]
/-- What is yielded so far is a beginning of it all. -/
theorem prs_pre (R : List St) {i k : Nat} (hi : i < R.length) (hk : k ≤ R.length) : prTo R i ++ prIn R i k <+: prs R := by
  have h1 : ∀ d j, j + d = R.length → prTo R j <+: prs R := by
    intro d
    induction d with
    | zero =>
      intro j hj
      rw [Nat.add_zero] at hj
      subst hj
      exact ⟨[], by rw [List.append_nil]; rfl⟩
    | succ d ih =>
      intro j hj
      have := ih (j + 1) (by omega)
      rw [prTo_succ] at this
      exact (List.prefix_append _ _).trans this
  have h2 : ∀ d j, j + d = R.length → prIn R i j <+: prIn R i R.length := by
    intro d
    induction d with
    | zero =>
      intro j hj
      rw [Nat.add_zero] at hj
      subst hj
      exact ⟨[], List.append_nil _⟩
    | succ d ih =>
      intro j hj
      refine List.IsPrefix.trans ?_ (ih (j + 1) (by omega))
      by_cases h : i < j
      · rw [prIn_succ R i j h]
        exact List.prefix_append _ _
      · rw [prIn_start R i j (by omega)]
        exact List.nil_prefix
  have h3 := h1 (R.length - (i + 1)) (i + 1) (by omega)
  rw [prTo_succ] at h3
  obtain ⟨t, ht⟩ := h2 (R.length - k) k (by omega)
  refine List.IsPrefix.trans ⟨t, ?_⟩ h3
  rw [List.append_assoc, ht]
theorem prs_mem {R : List St} {i k : Nat} : (i, k) ∈ prs R ↔ i < k ∧ k < R.length ∧ depAt R i k = true := by
  unfold prs prTo prIn
  rw [List.mem_flatMap]
  constructor
  · rintro ⟨a, ha, h⟩
    obtain ⟨j, hj, e⟩ := List.mem_map.1 h
    obtain ⟨h1, h2⟩ := List.mem_filter.1 hj
    injection e with e1 e2
    subst e1 e2
    rw [Bool.and_eq_true, decide_eq_true_eq] at h2
    exact ⟨h2.1, List.mem_range.1 h1, h2.2⟩
  · rintro ⟨h1, h2, h3⟩
    exact ⟨i, List.mem_range.2 (by omega), List.mem_map.2 ⟨k, List.mem_filter.2 ⟨List.mem_range.2 h2, by rw [decide_eq_true h1, h3]; rfl⟩, rfl⟩⟩
end Go.Proofs.YtlomhoohmcnniaaDoor.DP
