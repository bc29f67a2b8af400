/-
  lexer.scan's iterator yields the items of a source, in order. Conditions: the source is of a length of which we speak; strconv.ErrRange holds an error or nil.
  lexer.scan's iterator yields the items of a source, in order. Conditions: the source is of a length of which we speak; strconv.ErrRange holds an error or nil.
  append of one token onto an own row, inside a fence: which blocks may have turned.
  lexer.Tokens returns the tokens of a source, or its first error. Conditions: the source is of a length of which we speak; strconv.ErrRange holds an error or nil.
  lexer.Tokens returns the tokens of a source, or its first error. Conditions: the source is of a length of which we speak; strconv.ErrRange holds an error or nil.
  lexer.Tokens, told by the pure function lex. Conditions: the source is of a length of which we speak; strconv.ErrRange holds an error or nil.
  What Tokens returns, in one form; the cells of a row of tokens.
-/
import Derived.RangeFuncNested
import Derived.RangeFuncBound
import Derived.RangeFuncCalls
import Derived.RangeFuncLeaves
import Derived.RangeFuncBox
import Derived.Shelf.Abstract
import Derived.Shelf.RegionOpen
import Derived.WalkKit
import Derived.OwnWalkIn
import Derived.TacticsInMore
import Derived.LoopNIn
import Derived.LoopIn
import Derived.Test.YtlfpaemfhanpiaaGreatDoorK21
import Derived.Test.YtlfpaemfhanpiaaGreatDoorK8
import Derived.ArgAppend

namespace Go.Proofs.YtlfpaemfhanpiaaGreatDoor
open Go Go.RowKit Go.Proofs Go.Shelf Go.Proofs.YtlfpaemfhanpiaaGreatDoor.LX
attribute [local go_sem] Oper.semAt_some

/-- What the iterator yields: a token or an error with its place. -/
structure It where
  kind : Nat
  pos : Nat
  txt : ByteArray
  num : Nat
  code : Nat
def itV (x : It) : Value := .agg #[.int .i64 (x.kind : Int), .int .i64 (x.pos : Int), .string x.txt, .int .i64 (x.num : Int)]
def itEnc (x : It) : Array Value := #[.agg #[.int .i64 (x.kind : Int), .int .i64 (x.pos : Int), .string x.txt, .int .i64 (x.num : Int)], .int .i64 (x.code : Int)]
def itOf (s : ByteArray) (a : Nat) : Res → It
  | .bad e => ⟨0, a, ⟨#[]⟩, 0, e⟩
  | .good k n v => ⟨k, a, s.extract a (a + n), v, 0⟩
theorem tokR_it (s : ByteArray) (a : Nat) (r : Res) : tokR s a r = .tuple #[.agg #[.int .i64 ((itOf s a r).kind : Int), .int .i64 ((itOf s a r).pos : Int), .string (itOf s a r).txt, .int .i64 ((itOf s a r).num : Int)], .int .i64 ((itOf s a r).code : Int)] := by cases r <;> rfl
/-- Where the white space from a on ends. -/
def skipTo (s : ByteArray) (a : Nat) : Nat := s.size - (skip ((bsOf s).drop a)).length
theorem skipTo_of {s : ByteArray} {a k : Nat} (hk : k ≤ s.size) (h : skip ((bsOf s).drop a) = (bsOf s).drop k) : skipTo s a = k := by
  unfold skipTo
  rw [h, List.length_drop, bs_len]
  omega
def itemsF (s : ByteArray) : Nat → Nat → List It
  | 0, _ => []
  | f + 1, a => if a < s.size then itOf s a (tok1 ((bsOf s).drop a)) :: (match tok1 ((bsOf s).drop a) with
      | .bad _ => []
      | .good _ n _ => itemsF s f (skipTo s (a + n)))
    else [⟨0, a, ⟨#[]⟩, 0, 0⟩]
def items (s : ByteArray) : List It := itemsF s (s.size + 1) (skipTo s 0)
/-- The scanner's cells. -/
def scells (s : ByteArray) : Array Value := #[Value.string s] ++ tabC
theorem scells_size (s : ByteArray) : (scells s).size = 257 := by unfold scells; rw [Array.size_append, tabC_size]; rfl
theorem scells_one (s : ByteArray) : (scells s).all (·.oneCell') = true := by
  unfold scells
  rw [Array.all_append, tabC_one]
  simp [Value.oneCell']
def scn0 : Array Value := #[Value.string ⟨#[]⟩] ++ tab0
theorem zero_scn : (Tryz.prog.info? 102).map (fun i => (i.zero, i.size)) = some (some (.agg scn0), 257) := by kernel_rfl
theorem fold_scn (s : ByteArray) : Array.foldl (fun cs x => cs.setIfInBounds (1 + x.snd) x.fst) (scn0.setIfInBounds 0 (Value.string s)) tabC.zipIdx 0 256 = scells s := by kernel_rfl
theorem scn0_size : scn0.size = 257 := by unfold scn0 tab0; simp
theorem info_scn (s : ByteArray) : (Tryz.prog.info? 102).map (·.size) = some (scells s).size := by rw [scells_size, (zero_of_info zero_scn).2]
theorem store_scn_new (s : ByteArray) (V : World) : (storeCells ⟨V.heap.size, 0, none⟩ (scells s).toList 0).run Tryz.prog (V.alloc (.cells scn0 102)) = .ok () (V.alloc (.cells (scells s) 102)) := run_storeCells_new V _ scn0 (scells s) (info_scn s) (by rw [scells_size, scn0_size]) (scells_one s)
theorem store_scn (s : ByteArray) (V : World) (g : Nat) (hg : V.heap[g]? = some (.cells scn0 102 (0, 0))) : (storeCells ⟨g, 0, none⟩ (scells s).toList 0).run Tryz.prog V = .ok () (V.setRow g (scells s)) := by
  have hst := run_storeVar_row (P := Tryz.prog) V g 102 102 scn0 (scells s) hg (info_scn s) (by rw [scells_size, scn0_size]) (scells_one s)
  have hi := info_scn s
  cases hq : Tryz.prog.info? 102 with
  | none => rw [hq] at hi; cases hi
  | some i =>
    have hs : (scells s).size = i.size := by rw [hq] at hi; simp at hi; omega
    simpa [storeVar, sizeOf, typeInfo, hq, Value.cells, hs] using hst
theorem zero_scn_run : ∀ w, (zeroValue 102).run Tryz.prog w = .ok (.agg scn0) w := (zero_of_info zero_scn).1
end Go.Proofs.YtlfpaemfhanpiaaGreatDoor

namespace Go.Proofs.YtlfpaemfhanpiaaGreatDoor
open Go Go.RowKit Go.Proofs Go.Shelf Go.Proofs.YtlfpaemfhanpiaaGreatDoor.LX
attribute [local go_sem] Oper.semAt_some


/-- What a round keeps: strings' boxes, scanners, the library's variable. -/
def KpT (W W' : World) : Prop := W.heap.size ≤ W'.heap.size ∧ ∀ b o, W.heap[b]? = some o → ((∃ C fr, o = .cells C 102 fr) ∨ (∃ C fr, o = .cells C 9 fr) ∨ b = 5 ∨ (∃ C fr, o = .cells C 86 fr ∧ C.size = 4)) → W'.heap[b]? = W.heap[b]?
theorem KpT.of_below {W W' : World} (h : Below W.heap.size W W') : KpT W W' := ⟨h.size, fun b _ hb _ => h.block b (heap_lt hb)⟩
theorem KpT.trans {A B C : World} (h : KpT A B) (k : KpT B C) : KpT A C := ⟨Nat.le_trans h.1 k.1, fun b o hb ho => (k.2 b o ((h.2 b o hb ho).trans hb) ho).trans (h.2 b o hb ho)⟩
theorem KpT.err {W W' : World} (h : KpT W W') (hE : ErrV W) : ErrV W' := by
  obtain ⟨h1, ev, h2, h3⟩ := hE
  have h4 : W.heap[5]? = some W.heap[5] := Array.getElem?_eq_getElem h1
  refine ⟨Nat.lt_of_lt_of_le h1 h.1, ev, ?_, h3⟩
  rw [World.cell?_of_block (w := W) (h.2 _ _ h4 (.inr (.inr (.inl rfl))))]
  exact h2
theorem KpT.scn {W W' : World} (h : KpT W W') {g : Nat} {s : ByteArray} (hs : Scn W g s) : Scn W' g s := (h.2 _ _ hs (.inl ⟨_, _, rfl⟩)).trans hs
theorem KpT.box {W W' : World} (h : KpT W W') {b : Nat} {s : ByteArray} (hs : Boxed W b 9 (.string s)) : Boxed W' b 9 (.string s) := (h.2 _ _ hs (.inr (.inl ⟨_, _, rfl⟩))).trans hs
theorem KpT.tok {W W' : World} (h : KpT W W') {b : Nat} {a0 a1 a2 a3 : Value} (hs : W.heap[b]? = some (.cells #[a0, a1, a2, a3] 86 (0, 0))) : W'.heap[b]? = some (.cells #[a0, a1, a2, a3] 86 (0, 0)) := (h.2 _ _ hs (.inr (.inr (.inr ⟨_, _, rfl, rfl⟩)))).trans hs
theorem itemsF_lt (s : ByteArray) (f a : Nat) (h : a < s.size) : itemsF s (f + 1) a = itOf s a (tok1 ((bsOf s).drop a)) :: (match tok1 ((bsOf s).drop a) with
      | .bad _ => []
      | .good _ n _ => itemsF s f (skipTo s (a + n))) := by rw [itemsF, if_pos h] <;> rfl
theorem itemsF_end (s : ByteArray) (f : Nat) : itemsF s (f + 1) s.size = [⟨0, s.size, ⟨#[]⟩, 0, 0⟩] := by rw [itemsF, if_neg (by omega)]
theorem tok1_bad {c : UInt8} {t : List UInt8} {e : Nat} (h : tok1 (c :: t) = .bad e) : e ≠ 0 := by
  rintro rfl
  simp only [tok1] at h
  split at h
  · split at h <;> cases h
  · split at h
    · split at h <;> cases h
    · split at h
      · cases h
      · split at h <;> cases h
theorem itEnd (m : Nat) : itEnc ⟨0, m, ⟨#[]⟩, 0, 0⟩ = #[.agg #[.int .i64 0, .int .i64 (m : Int), .string ⟨#[]⟩, .int .i64 0], .int .i64 0] := rfl
theorem grown_of_below {W W' : World} (h : Below W.heap.size W W') : W.grownBy W' none := ⟨h.os, h.tape, h.output, h.size, fun b hb _ => h.block b hb⟩
set_option maxRecDepth 100000 in
set_option maxHeartbeats 8000000 in
theorem scan1_in (n : Nat) (hn : 3 ≤ n) (l Bs : Nat) (s : ByteArray) (hs : s.size ≤ 1000000000) (J Jx : List It → World → Prop) (W : World) (hJ : AbidesFrom W.heap.size J)
    (hY : ∀ pre x V, J pre V → pre.length < s.size + 1 → YieldAt Fence.wide (n - 1) Tryz.prog l (itEnc x) V fun e W' => (e = .returned (.bool true) ∧ J (pre ++ [x]) W' ∧ KpT V W') ∨ (e = .returned (.bool false) ∧ Jx (pre ++ [x]) W'))
    (hE : ErrV W) (hBs : Boxed W Bs 9 (.string s)) (h0 : J [] W) :
    CallsIn Fence.wide n Tryz.prog 72 #[.func (.yield l) #[] #[], .pointer (some ⟨Bs, 0, none⟩)] W fun e W' => (∃ v, e = .returned v) ∧ ((∃ ys, ys = items s ∧ J ys W') ∨ (∃ pre, pre <+: items s ∧ Jx pre W')) := by
  have hcb := hBs.cell
  have hbl := hBs.lt
  have hzv := zero_scn_run
  have hbs := fold_scn s
  have hTs := tabC_size
  have hSs := scells_size s
  have hZs := scn0_size
  have hscA := store_scn_new s
  have HSB := Lib.hid (store_scn s)
  have hcbA : ∀ o : Obj, (W.alloc o).cell? ⟨Bs, 0, none⟩ = some (.string s) := fun o => (World.cell?_of_block (w := W) (Below.heap_alloc _ _ _ hbl)).trans hcb
  have HCL := Lib.hid classes_any
  have HSC := Lib.hid (fun (V : World) (g : Nat) (h : V.heap[g]? = some (.cells (scells s) 102 (0, 0))) => ((show Scn V g s from h) : Scn V g s))
  obtain ⟨T, hT⟩ : ∃ T, tabC = T := ⟨_, rfl⟩
  obtain ⟨S, hS⟩ : ∃ S, scells s = S := ⟨_, rfl⟩
  obtain ⟨Z, hZ⟩ : ∃ Z, scn0 = Z := ⟨_, rfl⟩
  rw [hT, hS] at hbs
  rw [hT] at hTs
  rw [hS] at hSs
  rw [hZ] at hzv hbs hZs
  have hZe : ¬ Z = #[] := fun e => by rw [e] at hZs; simp at hZs
  rw [hT] at HCL
  rw [hS, hZ] at hscA HSB
  rw [hS] at HSC
  clear hT hS hZ
  refine callsIn_of_wp Tryz.func72 rfl trivial ?_ rfl
  simp only [Tryz.ntmps72, List.size_toArray, List.length_cons, List.length_nil, Nat.reduceAdd, Nat.reduceSub, Array.replicate_succ, Array.replicate_zero, List.push_toArray, List.append_toArray, List.nil_append, List.cons_append]
  gi_wp2
  gi_region_with (refine ⟨trivial, fun _ => by omega, ?_⟩; gi_at_call 73; refine (callsIn_wide.2 (HCL.out _)).mono ?_; rintro e w5 ⟨rfl, hb5⟩; have hbx5 : Boxed w5 Bs 9 (.string s) := (hb5.block Bs (by simp; omega)).trans (by first | exact hBs | exact (Below.heap_alloc _ _ _ hbl).trans hBs); have hcb5 := hbx5.cell; have hcb5A : ∀ o : Obj, (w5.alloc o).cell? ⟨Bs, 0, none⟩ = some (.string s) := (fun o => (World.cell?_of_block (w := w5) (Below.heap_alloc _ _ _ hbx5.lt)).trans hcb5); first | (have hsc5 := HSB.out w5 W.heap.size ((hb5.block W.heap.size (by simp)).trans (World.alloc_heap_new W.drew _)); have HG5 := Lib.hid ((hb5.block W.heap.size (by simp)).trans (World.alloc_heap_new W.drew _))) | skip; have HB5 := Lib.hid hb5)
  all_goals
    first
      | (obtain ⟨wv, hwv⟩ : ∃ V, w5.alloc (.cells S 102) = V := ⟨_, rfl⟩
         rw [hwv]
         have hsn : Scn wv w5.heap.size s := HSC.out _ _ (by rw [← hwv]; exact World.alloc_heap_new w5 _)
         have hbv : Below W.heap.size W wv := by rw [← hwv]; exact (((Below.refl _ W).drew).trans hb5).alloc (hb5.size) _
         obtain ⟨g, hg⟩ : ∃ g, w5.heap.size = g := ⟨_, rfl⟩
         rw [hg] at hsn ⊢)
      | (obtain ⟨wv, hwv⟩ : ∃ V, w5.setRow W.heap.size S = V := ⟨_, rfl⟩
         rw [hwv]
         have hsn : Scn wv W.heap.size s := HSC.out _ _ (by rw [← hwv]; exact setRow_heap w5 W.heap.size Z S _ (0, 0) HG5.out)
         have hbv : Below W.heap.size W wv := by rw [← hwv]; exact below_setRow ((((Below.refl _ W).alloc (Nat.le_refl _) _).drew).trans (hb5.mono (by simp))) (Nat.le_refl _) S
         obtain ⟨g, hg⟩ : ∃ g, W.heap.size = g := ⟨_, rfl⟩
         rw [hg] at hsn ⊢)
    clear hwv hg hb5 hbx5 hcb5 hcb5A hbs hTs hSs hZs hscA HSB hcbA HCL HSC hZe hzv hcb
    (try clear hsc5 HG5)
    (try clear HB5)
    have hJ0 : J [] wv := hJ _ _ _ none h0 (grown_of_below hbv) (fun r e => by cases e)
    have HJ0 := Lib.hid hJ0
    have HE0 := Lib.hid (hE.keep hbv)
    have HB0 := Lib.hid (show Boxed wv Bs 9 (.string s) from (hbv.block _ hbl).trans hBs)
    have HSN := Lib.hid hsn
    have HSK : Hid (Calls Tryz.prog 74 #[.pointer (some ⟨g, 0, none⟩), .int .i64 0] wv fun e w' => (∃ k : Nat, k ≤ s.size ∧ skip ((bsOf s).drop 0) = (bsOf s).drop k ∧ e = .returned (.int .i64 (k : Int))) ∧ Below wv.heap.size wv w') := (skipSpace_any wv g s 0 hsn (by omega) hs).mono fun e w' h => by
      obtain ⟨⟨k, _, h1, h2, h3⟩, h4⟩ := h
      exact ⟨⟨k, h1, h2, h3⟩, h4⟩
    have hbs := hbv.size
    clear h0 hJ0 hsn hE hBs
    gi_wp2_with (refine ⟨trivial, fun _ => by omega, ?_⟩
                 gi_at_call 74
                 refine (callsIn_wide.2 HSK.out).mono ?_
                 rintro e w6 ⟨⟨k, hk, hk2, rfl⟩, hb6⟩
                 have HK2 := Lib.hid hk2
                 have HB6 := Lib.hid hb6
                 clear hb6 hk2)
    gi_loopw [4] (fun x V => ∃ (pre : List It) (f a : Nat), x = .int .i64 (a : Int) ∧ a ≤ s.size ∧ Hid (pre ++ itemsF s f a = items s) ∧ s.size - a < f ∧ pre.length ≤ a ∧ Hid (J pre V) ∧ Hid (Scn V g s) ∧ Hid (ErrV V) ∧ Hid (Boxed V Bs 9 (.string s)) ∧ W.heap.size ≤ V.heap.size) (fun x _ => s.size - (intOf x).toNat)
    case atStart => exact ⟨[], s.size + 1, k, rfl, hk, (show [] ++ itemsF s (s.size + 1) k = items s by unfold items; rw [skipTo_of hk HK2.out]; rfl), by omega, Nat.zero_le _, hJ _ _ _ none HJ0.out (grown_of_below HB6.out) (fun r e => by cases e), HSN.out.below HB6.out HSN.out.lt, HE0.out.keep HB6.out, (HB6.out.block _ HB0.out.lt).trans HB0.out, Nat.le_trans hbs HB6.out.size⟩
    case round =>
      obtain ⟨pre, f, a, rfl, ha, hit, hf, hpl, hj, hsc, her, hbx, hsz⟩ := hrel
      obtain ⟨wo, hwo⟩ : ∃ V, V = wr := ⟨_, rfl⟩
      subst hwo
      have hcb := hbx.out.cell
      clear HK2 HB6 HSK HJ0 HE0 HB0 HSN
      by_cases hlt : a < s.size
      · obtain ⟨f', rfl⟩ : ∃ f', f = f' + 1 := ⟨f - 1, by omega⟩
        have hit2 := hit.out
        rw [itemsF_lt s f' a hlt] at hit2
        have htk := tokenAt_any wo g s a her.out hsc.out hlt hs
        rw [tokR_it] at htk
        have hlen := bs_len s
        have hdc := drop_cons (S := bsOf s) (i := a) (by rw [hlen]; exact hlt)
        obtain ⟨r, hr⟩ : ∃ r, tok1 ((bsOf s).drop a) = r := ⟨_, rfl⟩
        rw [hr] at htk hit2
        rw [hdc] at hr
        cases r with
        | bad e0 =>
          have he0 := tok1_bad hr
          have hcode : ((((itOf s a (.bad e0)).code : Nat) : Int) != 0) = true := by simp [itOf]; exact he0
          obtain ⟨x, hx⟩ : ∃ x, itOf s a (.bad e0) = x := ⟨_, rfl⟩
          rw [hx] at htk hit2 hcode
          have HIT := Lib.hid hit2
          have HTK := Lib.hid htk
          clear hit2 htk hr hdc hlen hx he0
          gi_wp2_with (refine ⟨trivial, fun _ => by omega, ?_⟩
                       gi_at_call 75
                       refine (callsIn_wide.2 HTK.out).mono ?_
                       rintro e w7 ⟨rfl, hb7⟩
                       have hb3 := hb7.alloc hb7.size (.cells #[.int .i64 (x.kind : Int), .int .i64 (x.pos : Int), .string x.txt, .int .i64 (x.num : Int)] 86)
                       have hj3 := hJ _ _ _ none hj.out (grown_of_below hb3) (fun r e => by cases e)
                       have htk3 := World.alloc_heap_new w7 (.cells #[.int .i64 (x.kind : Int), .int .i64 (x.pos : Int), .string x.txt, .int .i64 (x.num : Int)] 86)
                       obtain ⟨fn, tmps, assign, body, hy, hR⟩ := hY pre x _ hj3 (by omega)
                       unfold itEnc at hy
                       have HB3 := Lib.hid hb3
                       have HTK3 := Lib.hid htk3
                       clear hj3 hb3 htk3 hb7)
          all_goals
            refine ⟨fun _ => by omega, hR.mono ?_⟩
            rintro e W3 (⟨rfl, hJ3, hk3⟩ | ⟨rfl, hJx3⟩)
          · gi_wp2
            refine bodyPost_ret (results_none rfl _ _ _) rfl ?_
            exact ⟨⟨_, rfl⟩, .inl ⟨_, (show pre ++ [x] = items s from HIT.out), hJ3⟩⟩
          · gi_wp2
            refine bodyPost_ret (results_none rfl _ _ _) rfl ?_
            exact ⟨⟨_, rfl⟩, .inr ⟨_, ⟨[], by rw [List.append_nil]; exact HIT.out⟩, hJx3⟩⟩
        | good k0 n0 v0 =>
          have hln := tok1_len hr
          rw [← hdc, List.length_drop, hlen] at hln
          have hcode : ((((itOf s a (.good k0 n0 v0)).code : Nat) : Int) != 0) = false := by simp [itOf]
          have hts : (itOf s a (.good k0 n0 v0)).txt.size = n0 := by simp only [itOf]; rw [ByteArray.size_extract]; omega
          obtain ⟨x, hx⟩ : ∃ x, itOf s a (.good k0 n0 v0) = x := ⟨_, rfl⟩
          rw [hx] at htk hit2 hcode hts
          have HIT := Lib.hid hit2
          have HTK := Lib.hid htk
          clear hit2 htk hr hdc hlen hx
          gi_wp2_with (refine ⟨trivial, fun _ => by omega, ?_⟩
                       gi_at_call 75
                       refine (callsIn_wide.2 HTK.out).mono ?_
                       rintro e w7 ⟨rfl, hb7⟩
                       have hb3 := hb7.alloc hb7.size (.cells #[.int .i64 (x.kind : Int), .int .i64 (x.pos : Int), .string x.txt, .int .i64 (x.num : Int)] 86)
                       have hj3 := hJ _ _ _ none hj.out (grown_of_below hb3) (fun r e => by cases e)
                       have htk3 := World.alloc_heap_new w7 (.cells #[.int .i64 (x.kind : Int), .int .i64 (x.pos : Int), .string x.txt, .int .i64 (x.num : Int)] 86)
                       obtain ⟨fn, tmps, assign, body, hy, hR⟩ := hY pre x _ hj3 (by omega)
                       unfold itEnc at hy
                       have HB3 := Lib.hid hb3
                       have HTK3 := Lib.hid htk3
                       clear hj3 hb3 htk3 hb7)
          all_goals
            refine ⟨fun _ => by omega, hR.mono ?_⟩
            rintro e W3 (⟨rfl, hJ3, hk3⟩ | ⟨rfl, hJx3⟩)
          · have hs3 := HB3.out.size
            have hsc3 := hk3.scn (hsc.out.below HB3.out hsc.out.lt)
            have her3 := hk3.err (her.out.keep HB3.out)
            have hbx3 := hk3.box (show Boxed _ Bs 9 (.string s) from (HB3.out.block _ hbx.out.lt).trans hbx.out)
            have htk3 := hk3.tok HTK3.out
            obtain ⟨t0, t1, t2, t3, tf⟩ := tok_cells htk3
            clear tf htk3
            have HSK : Hid (Calls Tryz.prog 74 #[.pointer (some ⟨g, 0, none⟩), .int .i64 ((a : Int) + (n0 : Int))] W3 fun e w' => (∃ k : Nat, a + n0 ≤ k ∧ k ≤ s.size ∧ skip ((bsOf s).drop (a + n0)) = (bsOf s).drop k ∧ e = .returned (.int .i64 (k : Int))) ∧ Below W3.heap.size W3 w') := skipSpace_any W3 g s (a + n0) hsc3 (by omega) hs
            have HSC3 := Lib.hid hsc3
            have HER3 := Lib.hid her3
            have HBX3 := Lib.hid hbx3
            have HJ3 := Lib.hid hJ3
            have hz3 := hk3.1
            clear hJ3 hk3 hsc3 her3 hbx3
            gi_wp2_with (refine ⟨trivial, fun _ => by omega, ?_⟩
                         gi_at_call 74
                         refine (callsIn_wide.2 HSK.out).mono ?_
                         rintro e w8 ⟨⟨k8, hk8, hk9, hk10, rfl⟩, hb8⟩
                         have HK8 := Lib.hid hk10
                         have HB8 := Lib.hid hb8
                         clear hk10 hb8)
            go_roundw
            case rel => exact ⟨pre ++ [x], f', k8, rfl, hk9, (show (pre ++ [x]) ++ itemsF s f' k8 = items s by rw [← skipTo_of hk9 HK8.out, List.append_assoc]; exact HIT.out), by omega, by rw [List.length_append, List.length_singleton]; omega, hJ _ _ _ none HJ3.out (grown_of_below HB8.out) (fun r e => by cases e), HSC3.out.below HB8.out HSC3.out.lt, HER3.out.keep HB8.out, (HB8.out.block _ HBX3.out.lt).trans HBX3.out, by have := HB8.out.size; omega⟩
            case measure => simp [intOf]; omega
          · gi_wp2
            refine bodyPost_ret (results_none rfl _ _ _) rfl ?_
            exact ⟨⟨_, rfl⟩, .inr ⟨_, ⟨itemsF s f' (skipTo s (a + n0)), by rw [List.append_assoc]; exact HIT.out⟩, hJx3⟩⟩
      · obtain rfl : a = s.size := by omega
        obtain ⟨f', rfl⟩ : ∃ f', f = f' + 1 := ⟨f - 1, by omega⟩
        have hit2 := hit.out
        rw [itemsF_end] at hit2
        have HIT := Lib.hid hit2
        have hYe := hY pre ⟨0, s.size, ⟨#[]⟩, 0, 0⟩ wo hj.out (by omega)
        rw [itEnd] at hYe
        obtain ⟨fn, tmps, assign, body, hy, hR⟩ := hYe
        clear hit2
        gi_wp2
        all_goals
          refine ⟨fun _ => by omega, hR.mono ?_⟩
          rintro e W3 (⟨rfl, hJ3, hk3⟩ | ⟨rfl, hJx3⟩)
        · gi_wp2
          go_end0
          exact ⟨⟨_, rfl⟩, .inl ⟨_, HIT.out, hJ3⟩⟩
        · gi_wp2
          go_end0
          exact ⟨⟨_, rfl⟩, .inr ⟨_, ⟨[], by rw [List.append_nil]; exact HIT.out⟩, hJx3⟩⟩
end Go.Proofs.YtlfpaemfhanpiaaGreatDoor

namespace Go.Proofs.YtlfpaemfhanpiaaGreatDoor
open Go Go.RowKit Go.Proofs Go.Shelf Go.Proofs.YtlfpaemfhanpiaaGreatDoor.LX

theorem ownsRow_low {w : World} {b0 b1 : Nat} {e : TypeId} {size : Nat} {v : Value} {n : Nat} {xs : List Value} (h : w.ownsRow b1 e size v n xs) (hb : b0 ≤ b1) : w.ownsRow b0 e size v n xs := by
  refine ⟨h.1, ?_⟩
  rcases h.2 with h0 | ⟨g, cap, cur, rfl, h1, h2⟩
  · exact .inl h0
  · exact .inr ⟨g, cap, cur, rfl, Nat.le_trans hb h1, h2⟩
theorem wpListIn_append_tok {F : Fence} {n : Nat} {P : Program} (w : World) {ops : Array Oper} {rest : List Oper} {o : Oper} {a : Act} {Q : Exit → Act → World → Prop}
    (hg : o.guard = none) (s x : Operand) (t : TypeId) (hop : o.op = Op.call { callee := Callee.builtin Builtin.append, args := #[s, x], argTypes := #[t, t] })
    (base : Nat) (e : TypeId) (i : TypeInfo) (z : Value) (size bytes : Nat) (h1 : P.underlying t = some (.slice e)) (h2 : P.info? e = some i) (h3 : i.zero = some z) (h4 : i.size = size) (h5 : i.bytes = bytes) (h6 : z.cells.size = size) (h7 : 0 < size)
    (v : Value) (k : Nat) (xs : List Value) (hs : a.eval s = v) (hown : w.ownsRow base e size v k xs) (ad : Addr) (m c : Nat) (news : List Value) (hx : a.eval x = .slice (some ad) m c) (hn : news.length = m * size)
    (hc : ∀ j u, news[j]? = some u → w.cell? (ad.add j) = some u) (h1c : ∀ u ∈ news, u.oneCell' = true) (b1 : k + m ≤ maxLen) (b2 : (k + m) * bytes ≤ 140737488355328) (b3 : base ≤ w.heap.size)
    (hK : ∀ A' c' w', w'.ownsRow base e size (.slice A' (k + m) c') (k + m) (xs ++ news) → (w.grownBy w' none ∨ ∃ g cap, v = .slice (some ⟨g, 0, none⟩) k cap ∧ k + m ≤ cap ∧ w.grownBy w' (some g)) → wpListIn F n P ops Q rest (a.put o.dst (.slice A' (k + m) c')) w') :
    wpListIn F n P ops Q (o :: rest) a w := by
  have hform : ∀ {w' : World} {v' : Value}, w'.ownsRow base e size v' (k + m) (xs ++ news) → ∃ A' c', v' = .slice A' (k + m) c' := by
    intro w' v' h
    rcases h.2 with ⟨rfl, h0⟩ | ⟨g, cap, cur, rfl, _⟩
    · exact ⟨none, 0, by rw [h0]⟩
    · exact ⟨_, cap, rfl⟩
  have hown0 := hown
  rcases hown.2 with ⟨rfl, h0⟩ | ⟨g, cap, cur, rfl, g1, g2, g3, g4, g5, g6⟩
  · refine wpListIn_append_own w hg s x t hop base e i z size bytes h1 h2 h3 h4 h5 h6 h7 _ k xs hs hown0 ad m c news hx hn hc h1c b1 b2 b3 ?_
    intro v' w' r1 r2 _
    obtain ⟨A', c', rfl⟩ := hform r1
    exact hK A' c' w' r1 (.inl r2)
  · by_cases hfit : k + m ≤ cap
    · refine wpListIn_append_fits w hg s x t hop base e i size h1 h2 h4 g k cap xs hs hown0 ad m c news hx hn hc h1c hfit ?_
      intro w' r1 r2
      exact hK _ _ w' r1 (.inr ⟨g, cap, rfl, hfit, r2⟩)
    · refine wpListIn_plain hg fun K hK' => ?_
      have holds : ∀ j u, xs[j]? = some u → w.cell? ((⟨g, 0, none⟩ : Addr).add j) = some u := fun j u hu => hown0.cells rfl j u hu
      obtain ⟨v', w', hrun, r1, r2⟩ := run_append_arg_grows (P := P) w t o.type e i z size bytes h1 h2 h3 h4 h5 h6 h7 ⟨g, 0, none⟩ k cap xs hown0.1 holds ad m c news hn hc (by omega) b1 b2
      have r1' := ownsRow_low r1 b3
      obtain ⟨A', c', rfl⟩ := hform r1'
      unfold Oper.wpIn
      refine ⟨?_, ?_⟩
      · simp [Oper.about, hop, resolve, Target.leads, Sem.run_pure]
      · rw [Oper.semAt_plain F _ _ (by rw [hop]; intro c hc'; cases hc')]
        simp [execOp, hop, resolve, invoke, builtin, hs, hx, hrun, Result.andThen]
        exact hK' _ _ (hK A' c' w' r1' (.inl r2))
/-! ### items and tokens -/
def toIt (t : Tok) : It := ⟨t.kind, t.pos, ⟨t.text.toArray⟩, t.num, 0⟩
/-- What the items say. -/
def LexIs (is : List It) : Out → Prop
  | .err p c => ∃ ts : List Tok, is = ts.map toIt ++ [⟨0, p, ⟨#[]⟩, 0, c⟩] ∧ c ≠ 0
  | .ok ts => is = ts.map toIt
theorem bytes_eq {s : ByteArray} {l : List UInt8} (h : s.data.toList = l) : s = ⟨l.toArray⟩ := by
  apply ByteArray.ext
  rw [← h]
theorem items_at (s : ByteArray) : ∀ (f a : Nat), a ≤ s.size → s.size - a < f → skip ((bsOf s).drop a) = (bsOf s).drop a →
    LexIs (itemsF s f a) (lexF f a ((bsOf s).drop a))
  | 0, a, _, h, _ => absurd h (by omega)
  | f + 1, a, ha, hf, hsk => by
    have hlen := bs_len s
    rw [lexF, hsk]
    by_cases hlt : a < s.size
    · have hdc := drop_cons (S := bsOf s) (i := a) (by rw [hlen]; exact hlt)
      rw [itemsF_lt s f a hlt]
      obtain ⟨c, hc⟩ : ∃ c, (bsOf s).getD a 0 = c := ⟨_, rfl⟩
      rw [hc] at hdc
      have hpos : a + (((bsOf s).drop a).length - (c :: (bsOf s).drop (a + 1)).length) = a := by rw [hdc]; omega
      rw [hdc] at hpos ⊢
      simp only [hpos]
      cases hr : tok1 (c :: (bsOf s).drop (a + 1)) with
      | bad e => exact ⟨[], rfl, tok1_bad hr⟩
      | good k n v =>
        have hl := tok1_len hr
        rw [← hdc, List.length_drop, hlen] at hl
        simp only
        have hd : List.drop n (c :: (bsOf s).drop (a + 1)) = (bsOf s).drop (a + n) := by rw [← hdc, List.drop_drop]
        rw [hd]
        have hsl := skipS_len false ((bsOf s).drop (a + n))
        rw [List.length_drop, hlen] at hsl
        have hk : skipTo s (a + n) ≤ s.size := by unfold skipTo; omega
        have hka : a + n ≤ skipTo s (a + n) := by unfold skipTo; have : (skip ((bsOf s).drop (a + n))).length ≤ s.size - (a + n) := hsl; omega
        have hdk : skip ((bsOf s).drop (a + n)) = (bsOf s).drop (skipTo s (a + n)) := by
          have h1 := skip_drop ((bsOf s).drop (a + n))
          rw [List.drop_drop, List.length_drop, hlen] at h1
          rw [h1]
          congr 1
          unfold skipTo
          have : (skip ((bsOf s).drop (a + n))).length ≤ s.size - (a + n) := hsl
          omega
        have hlex : lexF f (a + n) ((bsOf s).drop (a + n)) = lexF f (skipTo s (a + n)) ((bsOf s).drop (skipTo s (a + n))) := by
          rw [lexF_skip f (a + n) _ (by rw [List.length_drop, hlen]; omega), hdk, List.length_drop, List.length_drop, hlen]
          congr 1
          omega
        rw [hlex]
        have ih := items_at s f (skipTo s (a + n)) hk (by omega) (by rw [← hdk, skip_skip])
        have hti : itOf s a (.good k n v) = toIt ⟨k, a, (c :: (bsOf s).drop (a + 1)).take n, v⟩ := by
          simp only [itOf, toIt]
          congr 1
          apply bytes_eq
          have := bs_extract s a (a + n)
          rw [hdc, Nat.add_sub_cancel_left] at this
          exact this
        cases hx : lexF f (skipTo s (a + n)) ((bsOf s).drop (skipTo s (a + n))) with
        | err p e =>
          rw [hx] at ih
          obtain ⟨ts, e1, e2⟩ := ih
          refine ⟨⟨k, a, (c :: (bsOf s).drop (a + 1)).take n, v⟩ :: ts, ?_, e2⟩
          rw [e1, hti]
          rfl
        | ok us =>
          rw [hx] at ih
          show _ = List.map toIt _
          rw [ih, hti]
          rfl
    · obtain rfl : a = s.size := by omega
      rw [itemsF_end, List.drop_eq_nil_of_le (by rw [hlen]; exact Nat.le_refl _)]
      rfl
theorem items_lex (s : ByteArray) : LexIs (items s) (lex (bsOf s)) := by
  have hlen := bs_len s
  have hsl := skipS_len false (bsOf s)
  rw [hlen] at hsl
  have hdk : skip (bsOf s) = (bsOf s).drop (skipTo s 0) := by
    have h1 := skip_drop (bsOf s)
    rw [hlen] at h1
    exact h1
  have hk : skipTo s 0 ≤ s.size := by unfold skipTo; omega
  have h := items_at s (s.size + 1) (skipTo s 0) hk (by omega) (by rw [← hdk, skip_skip])
  have e : lex (bsOf s) = lexF (s.size + 1) (skipTo s 0) ((bsOf s).drop (skipTo s 0)) := by
    unfold lex
    rw [hlen, lexF_skip _ _ _ (by rw [hlen]; omega), hdk, List.length_drop, hlen]
    congr 1
    omega
  rw [e]
  exact h
end Go.Proofs.YtlfpaemfhanpiaaGreatDoor

namespace Go.Proofs.YtlfpaemfhanpiaaGreatDoor
open Go Go.RowKit Go.Proofs Go.Shelf Go.Proofs.YtlfpaemfhanpiaaGreatDoor.LX
attribute [local go_sem] Oper.semAt_some

theorem scan_any (s : ByteArray) (w : World) : Calls Tryz.prog 44 #[.string s] w fun e w' => e = .returned (.func (.func 72) #[] #[.pointer (some ⟨w.heap.size, 0, none⟩)]) ∧ w' = w.alloc (.cells #[.string s] 9) := by
  go_enter Tryz.func44, Tryz.ntmps44
  go_wp2
  go_ret
  exact ⟨rfl, rfl⟩
theorem scan_stops (n : Nat) (hn : 3 ≤ n) (Bs : Nat) (s : ByteArray) (hs : s.size ≤ 1000000000) (w : World) (hE : ErrV w) (hBs : Boxed w Bs 9 (.string s)) :
    SeqStopsK Fence.wide n Tryz.prog 72 #[.pointer (some ⟨Bs, 0, none⟩)] itEnc KpT (fun ys => ys = items s) (fun pre => pre <+: items s) (s.size + 1) w :=
  fun l J Jx W hW hJ _ hY h0 => scan1_in n hn l Bs s hs J Jx W hJ hY (hE.keep hW) ((hW.block _ hBs.lt).trans hBs) h0
def itCells (x : It) : List Value := [.int .i64 (x.kind : Int), .int .i64 (x.pos : Int), .string x.txt, .int .i64 (x.num : Int)]
theorem info_tok2 : (Tryz.prog.info? 86).map (fun i => (i.zero, i.size, i.bytes)) = some (some (.agg tok0), 4, 40) := by kernel_rfl
theorem kpT_b {w : World} (W : World) (l : Nat) (o o' : Obj) (_ : w.heap.size ≤ l) (h : W.heap[l]? = some o) (hc : o.isCells = false) (_ : o.isWalk = false) (hE : 5 < w.heap.size) : KpT W (W.putObj l o') := by
  refine ⟨by simp, fun b ob hb ho => World.putObj_heap_other ?_⟩
  rintro rfl
  rw [h] at hb
  injection hb with hb
  subst hb
  rcases ho with ⟨C, fr, rfl⟩ | ⟨C, fr, rfl⟩ | e | ⟨C, fr, rfl, _⟩
  · cases hc
  · cases hc
  · omega
  · cases hc
/-- What a round's append and store leave. -/
theorem kpT_app {W w1 : World} {tmp : Obj} {B k : Nat} {v v' : Value} {n₀ : Nat} {xs : List Value} (hgr : (W.alloc tmp).grownBy w1 none ∨ ∃ g cap, v = .slice (some ⟨g, 0, none⟩) k cap ∧ k + 1 ≤ cap ∧ (W.alloc tmp).grownBy w1 (some g))
    (hrow : W.ownsRow n₀ 86 4 v k xs) (hk : v = .slice none 0 0 ∨ 1 ≤ k) (hb : Boxed W B 62 v) (hB : 5 < B) (hn : 5 < n₀) : KpT W (w1.setCell ⟨B, 0, none⟩ v') := by
  have hsz : W.heap.size ≤ (w1.setCell ⟨B, 0, none⟩ v').heap.size := by
    simp only [World.setCell, Array.size_modify]
    rcases hgr with h | ⟨g, cap, _, _, h⟩
    · have := h.size; simp at this; omega
    · have := h.size; simp at this; omega
  refine ⟨hsz, fun b o hbo ho => ?_⟩
  have hbl := heap_lt hbo
  have hbB : b ≠ B := by
    rintro rfl
    rw [show W.heap[b]? = _ from hb] at hbo
    injection hbo with hbo
    subst hbo
    rcases ho with ⟨C, fr, e⟩ | ⟨C, fr, e⟩ | e | ⟨C, fr, e, _⟩
    · injection e with _ e; cases e
    · injection e with _ e; cases e
    · omega
    · injection e with _ e; cases e
  rw [Below.heap_setCell _ _ _ _ hbB]
  rcases hgr with h | ⟨g, cap, hv, hcap, h⟩
  · rw [h.block b (by simp; omega) (by simp), Below.heap_alloc _ _ _ hbl]
  · rw [h.block b (by simp; omega) ?_, Below.heap_alloc _ _ _ hbl]
    intro e
    injection e with e
    subst e
    rcases hrow.2 with ⟨e, _⟩ | ⟨g', cap', cur, e, g1, g2, g3, g4, g5, g6⟩
    · rw [hv] at e; cases e
    · rw [hv] at e
      injection e with e1 e2 e3
      injection e1 with e1
      injection e1 with e1
      subst e1 e3
      rw [g2] at hbo
      injection hbo with hbo
      subst hbo
      have hk1 : 1 ≤ k := by
        rcases hk with h0 | h0
        · rw [hv] at h0; cases h0
        · exact h0
      rcases ho with ⟨C, fr, e⟩ | ⟨C, fr, e⟩ | e | ⟨C, fr, e, h4⟩
      · injection e with _ e; cases e
      · injection e with _ e; cases e
      · omega
      · injection e with e
        subst e
        omega
theorem grown_weaken {W w1 : World} {row : Option Nat} (h : W.grownBy w1 none) : W.grownBy w1 row := ⟨h.os, h.tape, h.output, h.size, fun b hb _ => h.block b hb (by simp)⟩
/-- A block of cells abides what the loop's book-keeping turns. -/
theorem block_own {b : Nat} {X Y : World} {row : Option Nat} {C : Array Value} {t : TypeId} {fr : Nat × Nat} (h : X.heap[b]? = some (.cells C t fr)) (hg : X.grownBy Y row) (hr : ∀ r, row = some r → ∃ o : Obj, X.heap[r]? = some o ∧ o.isCells = false) : Y.heap[b]? = some (.cells C t fr) := by
  rw [hg.block b (heap_lt h) ?_]
  · exact h
  · intro e
    obtain ⟨o, ho, hc⟩ := hr b e.symm
    rw [h] at ho
    injection ho with ho
    subst ho
    cases hc
/-- A box of another type abides a round's append and store. -/
theorem box_app {W w1 : World} {tmp : Obj} {B b k n₀ : Nat} {v v' u : Value} {t : TypeId} {xs : List Value} (hb : Boxed W b t u) (ht : t ≠ 86) (hne : b ≠ B) (hgr : (W.alloc tmp).grownBy w1 v.ownBlock)
    (hrow : W.ownsRow n₀ 86 4 v k xs) : Boxed (w1.setCell ⟨B, 0, none⟩ v') b t u := by
  unfold Boxed at hb ⊢
  have hbl := heap_lt hb
  rw [Below.heap_setCell _ _ _ _ hne, hgr.block b (by simp; omega) ?_, Below.heap_alloc _ _ _ hbl]
  · exact hb
  · intro e
    rcases hrow.2 with ⟨e', _⟩ | ⟨g', cap', cur, e', g1, g2, _⟩
    · rw [e'] at e; cases e
    · rw [e'] at e
      injection e with e
      subst e
      rw [hb] at g2
      injection g2 with g2
      injection g2 with _ g2
      exact ht g2
theorem box_set {W : World} {B b : Nat} {v' u : Value} {t : TypeId} (hb : Boxed W b t u) (hne : b ≠ B) : Boxed (W.setCell ⟨B, 0, none⟩ v') b t u := by
  unfold Boxed at hb ⊢
  rw [Below.heap_setCell _ _ _ _ hne]
  exact hb
theorem box_drew {W : World} {b : Nat} {u : Value} {t : TypeId} (h : Boxed W b t u) : Boxed W.drew b t u := h
theorem box3 {w W : World} {b : Nat} {t0 t1 t2 : TypeId} {v0 v1 v2 : Value} (c0 : Boxed W b t0 v0) (c1 : Boxed W (b + 1) t1 v1) (c2 : Boxed W (b + 2) t2 v2) (u0 u1 u2 : Value) (hB : Below b w W) :
    Boxed (((W.setCell ⟨b, 0, none⟩ u0).setCell ⟨b + 1, 0, none⟩ u1).setCell ⟨b + 1 + 1, 0, none⟩ u2) b t0 u0 ∧ Boxed (((W.setCell ⟨b, 0, none⟩ u0).setCell ⟨b + 1, 0, none⟩ u1).setCell ⟨b + 1 + 1, 0, none⟩ u2) (b + 1) t1 u1 ∧
    Boxed (((W.setCell ⟨b, 0, none⟩ u0).setCell ⟨b + 1, 0, none⟩ u1).setCell ⟨b + 1 + 1, 0, none⟩ u2) (b + 2) t2 u2 ∧ KeepsOthers W (((W.setCell ⟨b, 0, none⟩ u0).setCell ⟨b + 1, 0, none⟩ u1).setCell ⟨b + 1 + 1, 0, none⟩ u2) ∧
    Below b w (((W.setCell ⟨b, 0, none⟩ u0).setCell ⟨b + 1, 0, none⟩ u1).setCell ⟨b + 1 + 1, 0, none⟩ u2) :=
  ⟨box_set (box_set (c0.set u0) (by omega)) (by omega), box_set ((box_set c1 (by omega)).set u1) (by omega), (box_set (box_set c2 (by omega)) (by omega)).set u2, ((KeepsOthers.setCell _ _ _).trans (KeepsOthers.setCell _ _ _)).trans (KeepsOthers.setCell _ _ _),
   ((hB.setCell (p := ⟨b, 0, none⟩) (Nat.le_refl _) u0).setCell (p := ⟨b + 1, 0, none⟩) (Nat.le_succ _) u1).setCell (p := ⟨b + 1 + 1, 0, none⟩) (Nat.le_trans (Nat.le_succ _) (Nat.le_succ _)) u2⟩
theorem row_set1 {W : World} {B k n₀ : Nat} {v u u' : Value} {t : TypeId} {xs : List Value} (hrow : W.ownsRow n₀ 86 4 v k xs) (hb : Boxed W B t u) (ht : t ≠ 86) : (W.setCell ⟨B, 0, none⟩ u').ownsRow n₀ 86 4 v k xs :=
  hrow.kept (grownBy_setCell' W B u') (.inr (hb.not_row ht hrow).symm)
theorem box_put {W : World} {D b : Nat} {t : TypeId} {u : Value} (h : Boxed W b t u) (hK : W.heap[D]? = some (.deferred (some []))) (o : Obj) : Boxed (W.putObj D o) b t u :=
  block_own h (grownBy_putObj' W D o) (fun r e => by cases e; exact ⟨_, hK, rfl⟩)
/-- The three results. -/
theorem toks_ret {fn : Func} {p q r : Tmp} (hf : fn.results = #[.cell p 62, .cell q 3, .cell r 38]) {V : World} {b : Nat} {u v x : Value} (tmps : Array Value) (hp : tmps.getD p undef = .pointer (some ⟨b, 0, none⟩)) (hq : tmps.getD q undef = .pointer (some ⟨b + 1, 0, none⟩)) (hr : tmps.getD r undef = .pointer (some ⟨b + 2, 0, none⟩))
    (hu : Boxed V b 62 u) (hv : Boxed V (b + 1) 3 v) (hx : Boxed V (b + 2) 38 x) : (results fn tmps).run Tryz.prog V = .ok (.tuple #[u, v, x]) V := by
  have c1 := hu.cell
  have c2 := hv.cell
  have c3 := hx.cell
  simp only [results, hf]
  have hp' : tmps[p]?.getD undef = .pointer (some ⟨b, 0, none⟩) := by simpa using hp
  have hq' : tmps[q]?.getD undef = .pointer (some ⟨b + 1, 0, none⟩) := by simpa using hq
  have hr' : tmps[r]?.getD undef = .pointer (some ⟨b + 2, 0, none⟩) := by simpa using hr
  simp [Sem.run_bind, Result.andThen, asAddr, hp', hq', hr', go_sem, c1, c2, c3]
end Go.Proofs.YtlfpaemfhanpiaaGreatDoor

namespace Go.Proofs.YtlfpaemfhanpiaaGreatDoor
open Go Go.RowKit Go.Proofs Go.Shelf Go.Proofs.YtlfpaemfhanpiaaGreatDoor.LX
attribute [local go_sem] Oper.semAt_some

set_option maxRecDepth 100000 in
set_option maxHeartbeats 8000000 in
theorem tokens_in (n : Nat) (hn : 6 ≤ n) (s : ByteArray) (hs : s.size ≤ 1000000000) (w : World) (hE : ErrV w) :
    CallsIn Fence.wide n Tryz.prog 31 #[.string s] w fun e w' => Below w.heap.size w w' ∧
      ((∃ ps x, (ps ++ [x]) <+: items s ∧ x.code ≠ 0 ∧ e = .returned (.tuple #[.slice none 0 0, .int .i64 (x.pos : Int), .int .i64 (x.code : Int)])) ∨
       ((∀ x ∈ items s, x.code = 0) ∧ ∃ A c, e = .returned (.tuple #[.slice A (items s).length c, .int .i64 0, .int .i64 0]) ∧ w'.ownsRow w.heap.size 86 4 (.slice A (items s).length c) (items s).length ((items s).flatMap itCells))) := by
  have h1 : 1 ≤ n := by omega
  have hE0 := hE.1
  refine callsIn_of_wp_marks Tryz.func31 rfl trivial ?_ rfl
  simp only [Tryz.ntmps31, List.size_toArray, List.length_cons, List.length_nil, Nat.reduceAdd, Nat.reduceSub, Array.replicate_succ, Array.replicate_zero, List.push_toArray, List.append_toArray, List.nil_append, List.cons_append]
  gi_wp2_with (refine ⟨trivial, ?_⟩; gi_at_call 44; refine (callsIn_wide.2 (scan_any _ _)).mono ?_; rintro e w' ⟨rfl, rfl⟩)
  obtain ⟨W0, hW0⟩ : ∃ W0, ((((w.alloc (.cells #[.slice none 0 0] 62)).alloc (.cells #[.int .i64 0] 3)).alloc (.cells #[.int .i64 0] 38)).alloc (.cells #[.slice none 0 0] 62)).alloc (.cells #[.string s] 9) = W0 := ⟨_, rfl⟩
  have hB0 : Below w.heap.size w W0 := by
    rw [← hW0]
    exact (((((Below.refl _ w).alloc (Nat.le_refl _) _).alloc (by simp) _).alloc (by simp; omega) _).alloc (by simp; omega) _).alloc (by simp; omega) _
  have hsz : W0.heap.size = w.heap.size + 5 := by rw [← hW0]; simp
  have b0 : Boxed W0 w.heap.size 62 (.slice none 0 0) := by rw [← hW0]; exact ((((Boxed.new w _ _).alloc _).alloc _).alloc _).alloc _
  have b1 : Boxed W0 (w.heap.size + 1) 3 (.int .i64 0) := by
    rw [← hW0]
    have := Boxed.new (w.alloc (.cells #[.slice none 0 0] 62)) 3 (.int .i64 0)
    rw [World.size_alloc] at this
    exact ((this.alloc _).alloc _).alloc _
  have b2 : Boxed W0 (w.heap.size + 2) 38 (.int .i64 0) := by
    rw [← hW0]
    have := Boxed.new ((w.alloc (.cells #[.slice none 0 0] 62)).alloc (.cells #[.int .i64 0] 3)) 38 (.int .i64 0)
    rw [World.size_alloc, World.size_alloc] at this
    exact (this.alloc _).alloc _
  have b3 : Boxed W0 (w.heap.size + 3) 62 (.slice none 0 0) := by
    rw [← hW0]
    have := Boxed.new (((w.alloc (.cells #[.slice none 0 0] 62)).alloc (.cells #[.int .i64 0] 3)).alloc (.cells #[.int .i64 0] 38)) 62 (.slice none 0 0)
    rw [World.size_alloc, World.size_alloc, World.size_alloc] at this
    exact this.alloc _
  have b4 : Boxed W0 (w.heap.size + 4) 9 (.string s) := by
    rw [← hW0]
    have := Boxed.new ((((w.alloc (.cells #[.slice none 0 0] 62)).alloc (.cells #[.int .i64 0] 3)).alloc (.cells #[.int .i64 0] 38)).alloc (.cells #[.slice none 0 0] 62)) 9 (.string s)
    rw [World.size_alloc, World.size_alloc, World.size_alloc, World.size_alloc] at this
    exact this
  have HE0 := Lib.hid (hE.keep hB0)
  rw [hW0]
  clear hW0
  obtain ⟨i0, hi0, hz0, hz1, hz2⟩ := info_parts info_tok2
  refine wpIn_rangeFunc_ownH rfl h1 (gf := 72) (lb := #[.pointer (some ⟨w.heap.size + 1 + 1 + 1 + 1, 0, none⟩)]) rfl trivial (enters_of Tryz.func72 (by kernel_rfl) rfl)
    (scan_stops (n - 1) (by omega) (w.heap.size + 4) s hs W0 HE0.out b4)
    (fun h k => KpT.trans h k) (fun W l o o' hl h hc hw => kpT_b (w := W0) W l o o' hl h hc hw (by omega)) (Below.refl _ _) (fun _ => rfl)
    (fun pre W => (((Boxed W w.heap.size 62 (.slice none 0 0) ∧ Boxed W (w.heap.size + 1) 3 (.int .i64 0)) ∧ Boxed W (w.heap.size + 2) 38 (.int .i64 0)) ∧ (∃ v, Boxed W (w.heap.size + 3) 62 v ∧ W.ownsRow w.heap.size 86 4 v pre.length (pre.flatMap itCells) ∧ (v = .slice none 0 0 ∨ 1 ≤ pre.length))) ∧ ((∀ x ∈ pre, x.code = 0) ∧ Below w.heap.size w W))
    (fun c pre W => c = .ret ∧ ∃ ps x, pre = ps ++ [x] ∧ x.code ≠ 0 ∧ Boxed W w.heap.size 62 (.slice none 0 0) ∧ Boxed W (w.heap.size + 1) 3 (.int .i64 (x.pos : Int)) ∧ Boxed W (w.heap.size + 2) 38 (.int .i64 (x.code : Int)) ∧ Below w.heap.size w W)
    (OwnFrom.and (OwnFrom.and (OwnFrom.and (OwnFrom.and (Own.from (boxed_own _ _ _) _) (Own.from (boxed_own _ _ _) _)) (Own.from (boxed_own _ _ _) _)) (Own.from (holdsRow_own _ _ _ _ _ _ _ (fun (pre : List It) (v : Value) => v = .slice none 0 0 ∨ 1 ≤ pre.length)) _)) (OwnFrom.and (ownFrom_pure _ _) (ownFrom_below (Nat.le_refl _) (by omega))))
    (fun c pre X Y row hx hg hr => by
      obtain ⟨e0, ps, x, e1, e2, h0, h1, h2, hb⟩ := hx
      exact ⟨e0, ps, x, e1, e2, block_own h0 hg (fun r e => (hr r e).2), block_own h1 hg (fun r e => (hr r e).2), block_own h2 hg (fun r e => (hr r e).2), ownFrom_below (β := Unit) (B := W0.heap.size) (Nat.le_refl _) (by omega) () X Y row hb hg hr⟩)
    ⟨⟨⟨⟨b0, b1⟩, b2⟩, ⟨_, b3, World.ownsRow_nil _ _ _ _, .inl rfl⟩⟩, (fun x h => by cases h), hB0⟩
    (fun x a' W => ∃ Bx, W.heap[Bx]? = some (.cells #[.int .i64 (x.kind : Int), .int .i64 (x.pos : Int), .string x.txt, .int .i64 (x.num : Int)] 86 (0, 0)) ∧ w.heap.size + 4 ≤ Bx ∧ a' = { tmps := #[Value.string s, undef, Value.pointer (some ⟨w.heap.size, 0, none⟩), Value.pointer (some ⟨w.heap.size + 1, 0, none⟩), Value.pointer (some ⟨w.heap.size + 1 + 1, 0, none⟩), Value.pointer (some ⟨w.heap.size + 1 + 1 + 1, 0, none⟩), Value.pointer (some ⟨Bx, 0, none⟩), .int .i64 (x.code : Int), Value.string s, Value.func (Fn.func 72) #[] #[Value.pointer (some ⟨w.heap.size + 1 + 1 + 1 + 1, 0, none⟩)], .agg #[.int .i64 (x.kind : Int), .int .i64 (x.pos : Int), .string x.txt, .int .i64 (x.num : Int)], .int .i64 (x.code : Int), undef, undef, undef, undef, undef, undef, undef, undef, undef, undef], defers := [] })
    (fun x a' _ X Y row hs hg hr => by obtain ⟨Bx, h1, h2, h3⟩ := hs; exact ⟨Bx, block_own h1 hg (fun r e => (hr r e).2), h2, h3⟩)
    ?assign ?body ?done ?stop
  case assign =>
    rintro l pre x W K ⟨⟨⟨⟨c0, c1⟩, c2⟩, ⟨v, c3, hr, hv⟩⟩, hz, hB⟩ hK
    have hs5 := hB0.size
    have hKW := hK
    simp only [itEnc]
    gi_wp2
    exact hK _ _ ((KeepsOthers.alloc _ _).from _) (KpT.of_below ((Below.refl _ W).alloc (Nat.le_refl _) _)) ⟨⟨⟨⟨c0.alloc _, c1.alloc _⟩, c2.alloc _⟩, ⟨v, c3.alloc _, hr.alloc _, hv⟩⟩, hz, hB.alloc hB.size _⟩ ⟨W.heap.size, World.alloc_heap_new W _, by have := c3.lt; omega, rfl⟩
  case body =>
    rintro l pre x a' W hl ⟨r, hr⟩ ⟨⟨⟨⟨c0, c1⟩, c2⟩, ⟨v, c3, hrow, hv⟩⟩, hz, hB⟩ ⟨Bx, htk, hBx, rfl⟩ hlt
    obtain ⟨t0, t1, t2, t3, tf⟩ := tok_cells htk
    clear tf
    by_cases hc : x.code = 0
    · have hc1 : ((x.code : Int) != 0) = false := by simp [hc]
      have hvc := c3.cell
      have hsz1 := hB.size
      have hnews : ∀ j u, (itCells x)[j]? = some u → (W.alloc (.cells #[.int .i64 (x.kind : Int), .int .i64 (x.pos : Int), .string x.txt, .int .i64 (x.num : Int)] 86)).cell? ((⟨W.heap.size, 0, none⟩ : Addr).add j) = some u := fun j u hu => World.news_of_block (World.alloc_heap_new W (.cells #[.int .i64 (x.kind : Int), .int .i64 (x.pos : Int), .string x.txt, .int .i64 (x.num : Int)] 86)) j u hu
      have HPL := Lib.hid hlt
      have hpl : pre.length ≤ 1000000001 := by omega
      clear hlt
      gi_wp2_with (gi_at_builtin
                   refine wpListIn_append_tok _ rfl (.tmp 17) (.tmp 19) 62 rfl w.heap.size 86 i0 _ 4 40 Tryz.underlying62 hi0 hz0 hz1 hz2 rfl (by decide) v pre.length _ rfl (hrow.alloc _) ⟨W.heap.size, 0, none⟩ 1 1 (itCells x) rfl rfl hnews (by simp [itCells, Value.oneCell']) (by simp only [maxLen]; omega) (by omega) (by simp; omega) ?_
                   intro A' c' w1 hown' hgr
                   have hgrow : (W.alloc (.cells #[.int .i64 (x.kind : Int), .int .i64 (x.pos : Int), .string x.txt, .int .i64 (x.num : Int)] 86)).grownBy w1 v.ownBlock := (by
                     rcases hgr with h | ⟨g, cap, e, _, h⟩
                     · exact grown_weaken h
                     · rw [e]; exact h)
                   obtain ⟨hv1, hv2, hr2, hk2, hb2⟩ := c3.appended (by decide) hrow hsz1 (by omega) hown' hgrow
                   have hc3 := hv1.cell
                   have hf3 := hv1.frozen)
      refine ⟨hk2.from _, kpT_app hgr hrow hv c3 (by omega) (by omega), ⟨⟨⟨box_app c0 (by decide) (by omega) hgrow hrow, box_app c1 (by decide) (by omega) hgrow hrow⟩, box_app c2 (by decide) (by omega) hgrow hrow⟩, ⟨_, hv2, ?_, .inr (by simp)⟩⟩, ?_, hB.trans hb2⟩
      · rw [List.length_append, List.length_singleton, List.flatMap_append]
        show World.ownsRow _ _ _ _ _ _ (_ ++ ([x].flatMap itCells))
        rw [show [x].flatMap itCells = itCells x by simp]
        exact hr2
      · intro y hy
        rcases List.mem_append.1 hy with h | h
        · exact hz y h
        · rw [List.mem_singleton] at h
          rw [h]
          exact hc
    · have hc1 : ((x.code : Int) != 0) = true := by simp [hc]
      have d0 := c0.cell
      have d1 := c1.cell
      have d2 := c2.cell
      have f0 := c0.frozen
      have f1 := c1.frozen
      have f2 := c2.frozen
      gi_wp2
      gi_region
      all_goals
        gi_wp2
        obtain ⟨g0, g1, g2, g3, g4⟩ := box3 c0 c1 c2 (.slice none 0 0) (.int .i64 (x.pos : Int)) (.int .i64 (x.code : Int)) hB
        exact ⟨(g3.trans (KeepsOthers.drew _)).from _, rfl, pre, x, rfl, hc, g0, g1, g2, g4.drew⟩
  case done =>
    rintro D ys W hD rfl ⟨⟨⟨⟨c0, c1⟩, c2⟩, ⟨v, c3, hrow, hv⟩⟩, hz, hB⟩ hK
    obtain ⟨A, c', rfl⟩ : ∃ A c', v = .slice A (items s).length c' := by
      rcases hrow.2 with ⟨rfl, h0⟩ | ⟨g, cap, cur, rfl, _⟩
      · exact ⟨none, 0, by rw [h0]⟩
      · exact ⟨_, cap, rfl⟩
    have d3 := c3.cell
    have d0 := c0.cell
    have d1 := c1.cell
    have d2 := c2.cell
    have f0 := c0.frozen
    have f1 := c1.frozen
    have f2 := c2.frozen
    obtain ⟨g0, g1, g2, g3, g4⟩ := box3 c0 c1 c2 (.slice A (items s).length c') (.int .i64 0) (.int .i64 0) hB
    have hKK := g3.same D _ hK rfl
    have hr1 := row_set1 (u' := .slice A (items s).length c') hrow c0 (by decide)
    have hr2 := row_set1 (u' := .int .i64 0) hr1 (box_set c1 (by omega)) (by decide)
    have hr3 := row_set1 (u' := .int .i64 0) hr2 (box_set (box_set c2 (by omega)) (by omega)) (by decide)
    have HR3 := Lib.hid hr3
    have HG := Lib.hid (And.intro g0 (And.intro g1 (And.intro g2 g4)))
    have HKK := Lib.hid hKK
    clear g0 g1 g2 g3 g4 hr1 hr2 hr3 hrow hKK hK
    gi_wp2
    refine ⟨by simp, .inl ⟨_, _, rfl, run_takeDeferred HKK.out, ?_⟩⟩
    refine ⟨_, toks_ret (b := w.heap.size) rfl _ rfl rfl rfl (box_put HG.out.1 HKK.out _) (box_put HG.out.2.1 HKK.out _) (box_put HG.out.2.2.1 HKK.out _), ?_, .inr ⟨hz, A, c', rfl, ?_⟩⟩
    · exact HG.out.2.2.2.trans (belowK_b (w := w) (Nat.le_refl _) _ D _ _ (by omega) HKK.out rfl rfl)
    · exact ownsRow_putObj HR3.out _ HKK.out rfl
  case stop =>
    rintro D c pre W hD hpre ⟨rfl, ps, x, rfl, hc, c0, c1, c2, hB⟩ hK
    gi_wp2
    refine ⟨by simp, .inl ⟨_, _, rfl, run_takeDeferred hK, ?_⟩⟩
    refine ⟨_, toks_ret (b := w.heap.size) rfl _ rfl rfl rfl (box_put c0 hK _) (box_put c1 hK _) (box_put c2 hK _), ?_, .inl ⟨ps, x, hpre, hc, rfl⟩⟩
    exact hB.trans (belowK_b (w := w) (Nat.le_refl _) _ D _ _ (by omega) hK rfl rfl)
end Go.Proofs.YtlfpaemfhanpiaaGreatDoor

namespace Go.Proofs.YtlfpaemfhanpiaaGreatDoor
open Go Go.RowKit Go.Proofs Go.Shelf Go.Proofs.YtlfpaemfhanpiaaGreatDoor.LX

/-- A token's cells. -/
def tkCells (t : Tok) : List Value := [.int .i64 (t.kind : Int), .int .i64 (t.pos : Int), .string ⟨t.text.toArray⟩, .int .i64 (t.num : Int)]
/-- v is a slice of the call's own of the tokens ts; T: their type. -/
def TRow (W : World) (lo : Nat) (T : TypeId) (v : Value) (ts : List Tok) : Prop := W.ownsRow lo T 4 v ts.length (ts.flatMap tkCells)
/-- What Tokens returns. -/
def ToksAre (W : World) (lo : Nat) (T : TypeId) (e : Ending) : Out → Prop
  | .err p c => e = .returned (.tuple #[.slice none 0 0, .int .i64 (p : Int), .int .i64 (c : Int)])
  | .ok ts => ∃ A c, e = .returned (.tuple #[.slice A ts.length c, .int .i64 0, .int .i64 0]) ∧ TRow W lo T (.slice A ts.length c) ts
theorem toIt_cells (ts : List Tok) : (ts.map toIt).flatMap itCells = ts.flatMap tkCells := by
  induction ts with
  | nil => rfl
  | cons t u ih => rw [List.map_cons, List.flatMap_cons, List.flatMap_cons, ih]; rfl
theorem tokens_any (s : ByteArray) (hs : s.size ≤ 1000000000) (w : World) (hE : ErrV w) :
    Calls Tryz.prog 31 #[.string s] w fun e w' => ToksAre w' w.heap.size 86 e (lex (bsOf s)) ∧ Below w.heap.size w w' := by
  refine ((callsIn_wide (n := 6)).1 (tokens_in 6 (by omega) s hs w hE)).mono ?_
  rintro e w' ⟨hB, h⟩
  refine ⟨?_, hB⟩
  have hl := items_lex s
  cases hx : lex (bsOf s) with
  | err p c =>
    rw [hx] at hl
    obtain ⟨ts, hi, hc⟩ := hl
    rcases h with ⟨ps, x, hp, hxc, rfl⟩ | ⟨hz, _⟩
    · have hm : x ∈ items s := by
        obtain ⟨t, ht⟩ := hp
        rw [← ht]
        simp
      rw [hi] at hm
      rcases List.mem_append.1 hm with hm | hm
      · obtain ⟨t, _, rfl⟩ := List.mem_map.1 hm
        exact absurd rfl hxc
      · rw [List.mem_singleton] at hm
        subst hm
        rfl
    · exact absurd (hz ⟨0, p, ⟨#[]⟩, 0, c⟩ (by rw [hi]; simp)) hc
  | ok ts =>
    rw [hx] at hl
    have hi : items s = ts.map toIt := hl
    rcases h with ⟨ps, x, hp, hxc, rfl⟩ | ⟨_, A, c, rfl, hr⟩
    · have hm : x ∈ items s := by
        obtain ⟨t, ht⟩ := hp
        rw [← ht]
        simp
      rw [hi] at hm
      obtain ⟨t, _, rfl⟩ := List.mem_map.1 hm
      exact absurd rfl hxc
    · rw [hi, List.length_map, toIt_cells] at hr
      refine ⟨A, c, ?_, hr⟩
      rw [hi, List.length_map]
end Go.Proofs.YtlfpaemfhanpiaaGreatDoor

namespace Go.Proofs.YtlfpaemfhanpiaaGreatDoor
open Go Go.RowKit Go.Proofs Go.Proofs.YtlfpaemfhanpiaaGreatDoor.LX

def outT : Out → List Tok
  | .err _ _ => []
  | .ok ts => ts
def outP : Out → Nat
  | .err p _ => p
  | .ok _ => 0
def outC : Out → Nat
  | .err _ c => c
  | .ok _ => 0
theorem ToksAre.form {W : World} {lo : Nat} {T : TypeId} {e : Ending} {o : Out} (h : ToksAre W lo T e o) : ∃ A c, e = .returned (.tuple #[.slice A (outT o).length c, .int .i64 ((outP o : Nat) : Int), .int .i64 ((outC o : Nat) : Int)]) ∧ TRow W lo T (.slice A (outT o).length c) (outT o) := by
  cases o with
  | err p c => exact ⟨none, 0, h, World.ownsRow_nil _ _ _ _⟩
  | ok ts =>
    obtain ⟨A, c, h1, h2⟩ := h
    exact ⟨A, c, h1, h2⟩
theorem toks_any (s : ByteArray) (hs : s.size ≤ 1000000000) (w : World) (hE : ErrV w) :
    Calls Tryz.prog 31 #[.string s] w fun e w' => (∃ A c, e = .returned (.tuple #[.slice A (outT (lex (bsOf s))).length c, .int .i64 ((outP (lex (bsOf s)) : Nat) : Int), .int .i64 ((outC (lex (bsOf s)) : Nat) : Int)]) ∧ TRow w' w.heap.size 86 (.slice A (outT (lex (bsOf s))).length c) (outT (lex (bsOf s)))) ∧ Below w.heap.size w w' :=
  (tokens_any s hs w hE).mono fun _ _ h => ⟨h.1.form, h.2⟩
theorem outT_pre (ts : List Tok) (o : Out) : (outT (o.pre ts)).length ≤ ts.length + (outT o).length := by
  cases o with
  | err p c => exact Nat.zero_le _
  | ok us => show (ts ++ us).length ≤ _; rw [List.length_append]; exact Nat.le_refl _
theorem lexF_len : ∀ (f o : Nat) (L : List UInt8), (outT (lexF f o L)).length ≤ L.length + 1
  | 0, _, _ => Nat.zero_le _
  | f + 1, o, L => by
    have hl := skipS_len false L
    rw [lexF]
    cases hs : skip L with
    | nil => simp [outT]
    | cons c t =>
      rw [show skipS false L = c :: t from hs] at hl
      simp only
      cases hr : tok1 (c :: t) with
      | bad e => exact Nat.zero_le _
      | good k n v =>
        simp only
        have h1 := tok1_len hr
        refine Nat.le_trans (outT_pre _ _) ?_
        have ih := lexF_len f (o + (L.length - (c :: t).length) + n) ((c :: t).drop n)
        rw [List.length_drop] at ih
        rw [List.length_singleton]
        omega
theorem lex_len (s : ByteArray) : (outT (lex (bsOf s))).length ≤ s.size + 1 := by
  have := lexF_len ((bsOf s).length + 1) 0 (bsOf s)
  rw [bs_len] at this
  unfold lex
  rw [bs_len]
  exact this
/-- The four cells of a token at place i of block g. -/
def Tk4 (W : World) (g i : Nat) (t : Tok) : Prop := W.cell? ⟨g, i * 4, none⟩ = some (.int .i64 (t.kind : Int)) ∧ W.cell? ⟨g, i * 4 + 1, none⟩ = some (.int .i64 (t.pos : Int)) ∧ W.cell? ⟨g, i * 4 + 2, none⟩ = some (.string ⟨t.text.toArray⟩) ∧ W.cell? ⟨g, i * 4 + 3, none⟩ = some (.int .i64 (t.num : Int))
theorem Tk4.keep {W W' : World} {g i : Nat} {t : Tok} (h : Tk4 W g i t) (hk : W'.heap[g]? = W.heap[g]?) : Tk4 W' g i t :=
  ⟨(World.cell?_of_block (w := W) hk).trans h.1, (World.cell?_of_block (w := W) hk).trans h.2.1, (World.cell?_of_block (w := W) hk).trans h.2.2.1, (World.cell?_of_block (w := W) hk).trans h.2.2.2⟩
theorem toks_cell (ts : List Tok) : ∀ (i : Nat) (t : Tok), ts[i]? = some t → ∀ j u, (tkCells t)[j]? = some u → (ts.flatMap tkCells)[i * 4 + j]? = some u := by
  induction ts with
  | nil => intro i t h; cases h
  | cons a u ih =>
    intro i t h j v hv
    rw [List.flatMap_cons]
    cases i with
    | zero =>
      injection h with h
      subst h
      have : j < (tkCells a).length := (List.getElem?_eq_some_iff.1 hv).1
      rw [Nat.zero_mul, Nat.zero_add, List.getElem?_append_left this]
      exact hv
    | succ i =>
      have h4 : (tkCells a).length = 4 := rfl
      rw [List.getElem?_append_right (by omega), h4, show (i + 1) * 4 + j - 4 = i * 4 + j by omega]
      exact ih i t h j v hv
/-- A row of tokens as a block. -/
structure TBlk (W : World) (lo g : Nat) (ts : List Tok) : Prop where
  lo : lo ≤ g
  lt : g < W.heap.size
  cells : ∀ i t, ts[i]? = some t → Tk4 W g i t
theorem TBlk.keep {W W' : World} {lo g : Nat} {ts : List Tok} (h : TBlk W lo g ts) (hk : W'.heap[g]? = W.heap[g]?) (hz : W.heap.size ≤ W'.heap.size) : TBlk W' lo g ts :=
  ⟨h.lo, Nat.lt_of_lt_of_le h.lt hz, fun i t ht => (h.cells i t ht).keep hk⟩
theorem TBlk.below {W W' : World} {lo g : Nat} {ts : List Tok} (h : TBlk W lo g ts) (hb : Below W.heap.size W W') : TBlk W' lo g ts := h.keep (hb.block _ h.lt) hb.size
theorem tRow_blk {W : World} {lo : Nat} {T : TypeId} {A : Option Addr} {n c : Nat} {ts : List Tok} (h : TRow W lo T (.slice A n c) ts) (hn : 0 < ts.length) : ∃ g, A = some ⟨g, 0, none⟩ ∧ TBlk W lo g ts := by
  obtain ⟨g, cap, hv, hlo, hlt⟩ := World.ownsRow.form h hn
  injection hv with e1 _ _
  refine ⟨g, e1, hlo, hlt, fun i t ht => ?_⟩
  have key : ∀ j u, (tkCells t)[j]? = some u → W.cell? ⟨g, i * 4 + j, none⟩ = some u := fun j u hu => by
    have := World.ownsRow.cells (v := .slice A n c) h (g := g) (by rw [e1]; rfl) (i * 4 + j) u (toks_cell ts i t ht j u hu)
    rw [Addr.add_lit, Nat.zero_add] at this
    exact this
  exact ⟨key 0 _ rfl, key 1 _ rfl, key 2 _ rfl, key 3 _ rfl⟩
end Go.Proofs.YtlfpaemfhanpiaaGreatDoor
