/-
  The contract of the reference's generator of runs: some run of at most 14 steps. Condition: the numbers are integers of the machine.
-/
import Derived.Test.YtlomhoohmcnniaaDoorK3
import Derived.Test.YtlomhoohmcnniaaDoorK13
import Derived.Deep.CutRange

namespace Go.Proofs.YtlomhoohmcnniaaDoor
open Go Go.RowKit Go.Proofs
attribute [local go_sem] Oper.semAt_some

set_option maxRecDepth 100000 in
set_option maxHeartbeats 8000000 in
theorem run_any {B n c : Nat} {A : Option Addr} {zs : List Int} (w : World) (hI : Ints .i64 B w A n zs) (hB : B ≤ w.heap.size) (hz : ∀ z ∈ zs, I64 z) :
    Calls Tryd.prog 10 #[.slice A n c, .int .i64 14] w fun e w' => ∃ A' m c' R, e = .returned (.slice A' m c') ∧ Run w' A' m c' R ∧ m ≤ 14 ∧ (∀ s ∈ R, DP.Gd s) ∧ Below w.heap.size w w' := by
  have hlen := hI.len
  have HI := Lib.hid hI
  have HZ := Lib.hid hz
  clear hI hz
  have hmk : ∀ W : World, (Instr.makeSlice 22 (.int .i64 4) (.int .i64 4)).run Tryd.prog W = .ok (.slice (some ⟨W.heap.size, 0, none⟩) 4 4) (W.alloc (.cells #[.int .i64 0, .int .i64 0, .int .i64 0, .int .i64 0] 3)) := fun W => make_ints 4 4 (Nat.le_refl _) (by omega) W
  obtain ⟨W1, hW1⟩ : ∃ U, w.alloc (.cells #[.int .i64 0, .int .i64 0, .int .i64 0, .int .i64 0] 3) = U := ⟨_, rfl⟩
  have HG0 := Lib.hid (hW1 ▸ GSt.start w)
  have HB0 := Lib.hid (show Below w.heap.size w W1 by rw [← hW1]; exact (Below.refl _ _).alloc (Nat.le_refl _) _)
  go_enter Tryd.func10, Tryd.ntmps10
  go_wp2_with fail
  clear hmk hW1
  go_loopw [5, 6, 8] (fun o f i V => ∃ (k : Nat) (R : List DP.St) (F : List NM.Ms), i = .int .i64 (k : Int) ∧ k ≤ n ∧ k ≤ 14 ∧ R.length ≤ k ∧ F.length ≤ 2 * k ∧ (∃ A c, o = .slice A R.length c) ∧ (∃ A c, f = .slice A F.length c) ∧ Hid (GSt w.heap.size V o R R f F w.heap.size) ∧ Hid (Below w.heap.size w V)) (fun _ _ i _ => n - (intOf i).toNat)
  case atStart => exact ⟨0, [], [], rfl, Nat.zero_le _, by omega, Nat.le_refl _, Nat.le_refl _, ⟨none, 0, rfl⟩, ⟨none, 0, rfl⟩, HG0.out, HB0.out⟩
  case round =>
    obtain ⟨k, R, F, rfl, hkn, hk14, hRk, hFk, ⟨Ao, co, rfl⟩, ⟨Af, cf, rfl⟩, hg, hbl⟩ := hrel
    clear HG0 HB0
    by_cases hkn2 : k < n
    · by_cases hk2 : k < 14
      · obtain ⟨b, off, rfl, hbB, hcell⟩ := HI.out.at_ (by omega)
        have hck := (hbl.out.cell (p := ⟨b, off + k, none⟩) (show b < w.heap.size by omega)).trans (hcell k hkn2)
        obtain ⟨z, hzz⟩ : ∃ z, zs[k]?.getD 0 = z := ⟨_, rfl⟩
        have hz64 : I64 z := HZ.out z (by
          rw [← hzz, List.getElem?_eq_getElem (by omega)]
          exact List.getElem_mem (by omega))
        rw [hzz] at hck
        obtain ⟨nn, hnn⟩ : ∃ m : Nat, around z 10000000 = (m : Int) := ⟨(around z 10000000).toNat, by have := (around_in z 10000000 (by omega)).1; omega⟩
        have hnl : nn < 10000000 := by have := (around_in z 10000000 (by omega)).2; omega
        have HAR := Lib.hid (around_any z 10000000 hz64 (by omega) (by omega) wr)
        rw [hnn] at HAR
        have d1 : decide (k < n) = true := decide_eq_true hkn2
        have d2 : decide ((k : Int) < 14) = true := decide_eq_true (by omega)
        clear hcell hzz hz64 hnn
        -- the step's box, the cause's box, the count
        obtain ⟨s0, hs0⟩ : ∃ s0 : DP.St, s0 = ⟨⟨0, (nn : Int) % 4, 0, ⟨0, 0, 0, 0, 0⟩⟩, none, 0, [], false, none, 0, []⟩ := ⟨_, rfl⟩
        obtain ⟨W2, hW2⟩ : ∃ U, wr.alloc (.cells #[.int .i64 0, .int .i64 ((nn : Int) % 4), .int .i64 0, .int .i64 0, .int .i64 0, .int .i64 0, .int .i64 0, .int .i64 0, .slice none 0 0, .bool false, .slice none 0 0] 52) = U := ⟨_, rfl⟩
        have HW2 := Lib.hid hW2
        clear hW2
        go_upto_region 10 with (go_at_call 16; refine HAR.out.mono ?_; rintro e w' ⟨rfl, rfl⟩)
        rw [HW2.out]
        have hW2 := HW2.out
        have hx2 : StBx W2 wr.heap.size s0 := by rw [← hW2, hs0]; exact StBx.new wr ⟨⟨0, (nn : Int) % 4, 0, ⟨0, 0, 0, 0, 0⟩⟩, none, 0, [], false, none, 0, []⟩
        have hb2 : Below wr.heap.size wr W2 := by rw [← hW2]; exact (Below.refl _ _).alloc (Nat.le_refl _) _
        have hz2 : W2.heap.size = wr.heap.size + 1 := by rw [← hW2]; simp
        have hg2 := hg.out.below hb2
        have h4 : nn % 4 < 4 := Nat.mod_lt _ (by omega)
        obtain ⟨cc, hcc, hcf, _⟩ := hg2.count h4
        obtain ⟨W3, hW3⟩ : ∃ U, W2.alloc (.cells #[.int .i64 ((nn : Int) % 4), .int .i64 ((nn : Int) / 4 % 3), .int .i64 cc] 44) = U := ⟨_, rfl⟩
        have hb3 : Below W2.heap.size W2 W3 := by rw [← hW3]; exact (Below.refl _ _).alloc (Nat.le_refl _) _
        have hz3 : W3.heap.size = wr.heap.size + 2 := by rw [← hW3]; simp [hz2]
        have hx3 := hx2.keep hx2.lt hb3
        have hy3 : W3.heap[wr.heap.size + 1]? = some (.cells #[.int .i64 ((nn : Int) % 4), .int .i64 ((nn : Int) / 4 % 3), .int .i64 cc] 44 (0, 0)) := by
          have := World.alloc_heap_new W2 (.cells #[.int .i64 ((nn : Int) % 4), .int .i64 ((nn : Int) / 4 % 3), .int .i64 cc] 44)
          rwa [hW3, hz2] at this
        have hg3 := hg2.below hb3
        obtain ⟨cd, hcd, hdf, hdk⟩ := hg3.count h4
        have hcc3 := (hb3.cell (p := ⟨w.heap.size, nn % 4, none⟩) (World.block_lt_of_cell? _ _ hcc)).trans hcc
        obtain rfl : cd = cc := by
          rw [hcc3] at hcd
          injection hcd with hcd
          injection hcd with _ hcd
          exact hcd.symm
        have HDK := Lib.hid hdk
        have HX3 := Lib.hid hx3
        have HY3 := Lib.hid hy3
        have HS0 := Lib.hid hs0
        have HB3 := Lib.hid (hbl.out.trans ((hb2.trans (hb3.mono hb2.size)).mono hbl.out.size))
        clear hx2 hg2 hg3 hb2 hb3 hdk hx3 hy3 hcc3 hs0 hW2 HW2
        go_upto_region 13 with (fail)
        obtain ⟨W4, hW4⟩ : ∃ U, W3.setCell ⟨w.heap.size, nn % 4, none⟩ (.int .i64 (wrap64 (cd + 1))) = U := ⟨_, rfl⟩
        have hx4 : StBx W4 wr.heap.size s0 := by rw [← hW4]; exact (Below.heap_setCell _ _ _ _ (show wr.heap.size ≠ w.heap.size by have := hbl.out.size; have := heap_lt hg.out.cnt.choose_spec.2; omega)).trans HX3.out
        have hy4 : W4.heap[wr.heap.size + 1]? = some (.cells #[.int .i64 ((nn : Int) % 4), .int .i64 ((nn : Int) / 4 % 3), .int .i64 cd] 44 (0, 0)) := by rw [← hW4]; exact (Below.heap_setCell _ _ _ _ (show wr.heap.size + 1 ≠ w.heap.size by have := hbl.out.size; omega)).trans HY3.out
        have hbare : Bare s0 := by rw [HS0.out]; exact ⟨rfl, rfl, rfl, rfl, rfl, rfl, by show 0 ≤ (nn : Int) % 4; omega, by show (nn : Int) % 4 < 4; omega⟩
        have hrd : Rd w.heap.size W4 wr.heap.size s0 (.slice Ao R.length co) R (.slice Af F.length cf) F w.heap.size := by
          refine ⟨GSt.more (by rw [← hW4]; exact HDK.out _) (hbare.inn _ _) (fun b e => (hbare.dis b e).elim), hx4, ⟨_, _, _, hy4⟩, fun e => ?_, fun _ _ x _ e => hbare.dis x e⟩
          have := (row_blk hg.out.out e).2.1
          omega
        have hb4 : Below w.heap.size w W4 := by rw [← hW4]; exact HB3.out.setCell (p := ⟨w.heap.size, nn % 4, none⟩) (Nat.le_refl _) _
        have hz4 : W4.heap.size = wr.heap.size + 2 := by rw [← hW4]; simp [hz3]
        rw [hW4]
        have HRD := Lib.hid hrd
        have HB4 := Lib.hid hb4
        have HBA := Lib.hid hbare
        have HWR := Lib.hid hbl.out.size
        clear hW4 hx4 hy4 hbare hrd hb4 hW3 HDK HX3 HY3 HS0 HB3 hcc hcf hcd hdf hz2 hz3 hck HAR hg hbl
        obtain ⟨kd, hkd⟩ : ∃ q, nn / 12 % 8 = q := ⟨_, rfl⟩
        have hkdI : (nn : Int) / 12 % 8 = (kd : Int) := by omega
        have hkd8 : kd < 8 := by omega
        rw [hkdI]
        -- is a message consumed?
        go_cut [62] from 56 to 148 (fun s62 V => V = W4 ∧ ∃ y, s62 = .bool y ∧ (y = true → kd < 4 ∧ 0 < F.length))
        case first =>
          by_cases q1 : kd < 4
          · by_cases q2 : 0 < F.length
            · go_wp2_with fail
              go_meet
              case rel => exact ⟨rfl, true, rfl, fun _ => ⟨q1, q2⟩⟩
            · go_wp2_with fail
              go_meet
              case rel => exact ⟨rfl, false, rfl, fun h => by cases h⟩
          · go_wp2_with fail
            go_meet
            case rel => exact ⟨rfl, false, rfl, fun h => by cases h⟩
        case rest =>
          obtain ⟨hwc, y, rfl, hy⟩ := hcut
          subst hwc
          go_upto_if 62 with (fail)
          go_cut [] from 17 to 148 (fun V => ∃ s, Hid (Rd w.heap.size V wr.heap.size s (.slice Ao R.length co) R (.slice Af F.length cf) F w.heap.size) ∧ Hid (Bare s) ∧ Hid (Below w.heap.size w V))
          case first =>
            have hwr := HWR.out
            obtain ⟨⟨k0, n0, a0, ⟨mc, mh, mt, mi, mp⟩⟩, qB, qc, qs, ob, sB, sc, ms⟩ := s0
            obtain ⟨x0, x1, x2, x3, x4, x5, x6, x7, x8, x9, x10⟩ := HRD.out.x.cells
            have hfr := fun j => HRD.out.x.free j
            have hba : ∀ k a m o, Bare ⟨⟨k, n0, a, m⟩, qB, qc, qs, o, sB, sc, ms⟩ := fun _ _ _ _ => ⟨HBA.out.q, HBA.out.qB, HBA.out.qc, HBA.out.m, HBA.out.sB, HBA.out.sc, HBA.out.n0, HBA.out.n4⟩
            have hbs : ∀ (V : World) (j : Nat) (u : Value), Below w.heap.size w V → Below w.heap.size w (V.setCell ⟨wr.heap.size, j, none⟩ u) := fun V j u hV => hV.setCell (p := ⟨wr.heap.size, j, none⟩) hwr u
            cases y
            · by_cases q6 : kd < 6
              · have d6 : decide ((kd : Int) < 6) = true := decide_eq_true (by omega)
                have HBA2 := Lib.hid hba
                have HBS := Lib.hid hbs
                clear hba hbs
                go_wp2_with fail
                go_meet
                case rel => exact ⟨⟨⟨4, n0, (nn : Int) / 96 % 3, ⟨mc, mh, mt, mi, mp⟩⟩, qB, qc, qs, ob, sB, sc, ms⟩, (HRD.out.set HBA.out (HBA2.out 4 a0 ⟨mc, mh, mt, mi, mp⟩ ob) rfl).set (HBA2.out _ _ _ _) (HBA2.out _ _ _ _) rfl, HBA2.out _ _ _ _, HBS.out _ _ _ (HBS.out _ _ _ HB4.out)⟩
              · have d6 : decide ((kd : Int) < 6) = false := decide_eq_false (by omega)
                have HBA2 := Lib.hid hba
                have HBS := Lib.hid hbs
                clear hba hbs
                go_wp2_with fail
                go_meet
                case rel => exact ⟨⟨⟨2, n0, (k : Int), ⟨mc, mh, mt, mi, mp⟩⟩, qB, qc, qs, true, sB, sc, ms⟩, ((HRD.out.set HBA.out (HBA2.out 2 a0 ⟨mc, mh, mt, mi, mp⟩ ob) rfl).set (HBA2.out _ _ _ _) (HBA2.out 2 k ⟨mc, mh, mt, mi, mp⟩ ob) rfl).set (HBA2.out _ _ _ _) (HBA2.out _ _ _ _) rfl, HBA2.out _ _ _ _, HBS.out _ _ _ (HBS.out _ _ _ (HBS.out _ _ _ HB4.out))⟩
            · obtain ⟨q1, q2⟩ := hy rfl
              obtain ⟨ek, hek⟩ : ∃ ek : Int, ∀ W : World, (W.alloc (.cells #[.int .i64 3, .int .i64 3, .int .i64 5, .int .i64 6] 3)).cell? ⟨W.heap.size, kd, none⟩ = some (.int .i64 ek) := by
                have h := fun (W : World) (j : Nat) (u : Value) (hu : (#[.int .i64 3, .int .i64 3, .int .i64 5, .int .i64 6] : Array Value)[j]? = some u) => (cell_of_row (W.alloc (.cells #[.int .i64 3, .int .i64 3, .int .i64 5, .int .i64 6] 3)) W.heap.size j _ _ (0, 0) (World.alloc_heap_new W _)).trans hu
                have hkk : kd = 0 ∨ kd = 1 ∨ kd = 2 ∨ kd = 3 := by omega
                rcases hkk with e | e | e | e <;> rw [e]
                · exact ⟨3, fun W => h W 0 _ rfl⟩
                · exact ⟨3, fun W => h W 1 _ rfl⟩
                · exact ⟨5, fun W => h W 2 _ rfl⟩
                · exact ⟨6, fun W => h W 3 _ rfl⟩
              have hek1 := hek wc
              obtain ⟨W5, hW5⟩ : ∃ U, wc.alloc (.cells #[.int .i64 3, .int .i64 3, .int .i64 5, .int .i64 6] 3) = U := ⟨_, rfl⟩
              rw [hW5, hz4] at hek1
              have hb5 : Below wc.heap.size wc W5 := by rw [← hW5]; exact (Below.refl _ _).alloc (Nat.le_refl _) _
              have hr5 := HRD.out.below hb5
              clear x0 x1 x2 x3 x4 x5 x6 x7 x8 x9 x10 hfr
              obtain ⟨x0, x1, x2, x3, x4, x5, x6, x7, x8, x9, x10⟩ := hr5.x.cells
              have hfr := fun j => hr5.x.free j
              have HR5 := Lib.hid hr5
              have HB5 := Lib.hid (HB4.out.trans (hb5.mono HB4.out.size))
              clear hr5 hb5
              have HBA2 := Lib.hid hba
              have HBS := Lib.hid hbs
              clear hba hbs hek
              go_upto_region 15 with (fail)
              clear hW5 hek1
              -- the message
              have hr6 := HR5.out.set HBA.out (HBA2.out ek a0 ⟨mc, mh, mt, mi, mp⟩ ob) (j := 0) (u := .int .i64 ek) rfl
              have hb6 := HBS.out _ 0 (.int .i64 ek) HB5.out
              obtain ⟨W6, hW6⟩ : ∃ U, W5.setCell ⟨wr.heap.size, 0, none⟩ (.int .i64 ek) = U := ⟨_, rfl⟩
              rw [hW6] at hr6 hb6 ⊢
              clear hW6 x0 x1 x2 x3 x4 x5 x6 x7 x8 x9 x10 hfr
              obtain ⟨x0, x1, x2, x3, x4, x5, x6, x7, x8, x9, x10⟩ := hr6.x.cells
              have hfr := fun j => hr6.x.free j
              obtain ⟨jf, hjf⟩ : ∃ q, nn / 96 % F.length = q := ⟨_, rfl⟩
              have hjj : jf < F.length := by rw [← hjf]; exact Nat.mod_lt _ q2
              have hjI : (nn : Int) / 96 % (F.length : Int) = (jf : Int) := by rw [← hjf]; rfl
              obtain ⟨gF, mm, hgF, hgl, ⟨C, hC⟩, y0, y1, y2, y3, y4⟩ := hr6.g.flight rfl hjj
              subst hgF
              have hne : gF ≠ wr.heap.size := ty_ne hC hr6.x (by decide)
              have hz0 : ((F.length : Int) == 0) = false := by simp; intro e; rw [e] at q2; simp at q2
              have HR6 := Lib.hid hr6
              have HB6 := Lib.hid hb6
              clear hr6 hb6 hC
              go_upto_region 16 with (fail)
              clear y0 y1 y2 y3 y4 x0 x1 x2 x3 x4 x5 x6 x7 x8 x9 x10 hfr
              obtain ⟨m0, m1, m2, m3, m4⟩ := mm
              have hr7 := ((((HR6.out.set (HBA2.out _ _ _ _) (HBA2.out ek a0 ⟨m0, mh, mt, mi, mp⟩ ob) (j := 3) (u := .int .i64 m0) rfl).set (HBA2.out _ _ _ _) (HBA2.out ek a0 ⟨m0, m1, mt, mi, mp⟩ ob) (j := 4) (u := .int .i64 m1) rfl).set (HBA2.out _ _ _ _) (HBA2.out ek a0 ⟨m0, m1, m2, mi, mp⟩ ob) (j := 5) (u := .int .i64 m2) rfl).set (HBA2.out _ _ _ _) (HBA2.out ek a0 ⟨m0, m1, m2, m3, mp⟩ ob) (j := 6) (u := .int .i64 m3) rfl).set (HBA2.out _ _ _ _) (HBA2.out ek a0 ⟨m0, m1, m2, m3, m4⟩ ob) (j := 7) (u := .int .i64 m4) rfl
              have hb7 := HBS.out _ 7 (.int .i64 m4) (HBS.out _ 6 (.int .i64 m3) (HBS.out _ 5 (.int .i64 m2) (HBS.out _ 4 (.int .i64 m1) (HBS.out _ 3 (.int .i64 m0) HB6.out))))
              obtain ⟨W7, hW7⟩ : ∃ U, ((((W6.setCell ⟨wr.heap.size, 3, none⟩ (.int .i64 m0)).setCell ⟨wr.heap.size, 4, none⟩ (.int .i64 m1)).setCell ⟨wr.heap.size, 5, none⟩ (.int .i64 m2)).setCell ⟨wr.heap.size, 6, none⟩ (.int .i64 m3)).setCell ⟨wr.heap.size, 7, none⟩ (.int .i64 m4) = U := ⟨_, rfl⟩
              rw [hW7] at hr7 hb7 ⊢
              obtain ⟨x0, x1, x2, x3, x4, x5, x6, x7, x8, x9, x10⟩ := hr7.x.cells
              have hfr := fun j => hr7.x.free j
              have HR7 := Lib.hid hr7
              have HB7 := Lib.hid hb7
              clear hr7 hb7 hW7 HR6 HB6 HR5 HB5
              by_cases q5 : kd > 0
              · by_cases q7 : nn / 7 % 5 = 4
                · have d7 : ((nn : Int) / 7 % 5 == 4) = true := by simp; omega
                  have d5 : decide (0 < kd) = true := decide_eq_true q5
                  go_wp2_with fail
                  go_meet
                  case rel => exact ⟨⟨⟨ek, n0, a0, ⟨m0, m1, m2, m3, 1⟩⟩, qB, qc, qs, ob, sB, sc, ms⟩, HR7.out.set (HBA2.out _ _ _ _) (HBA2.out _ _ _ _) rfl, HBA2.out _ _ _ _, HBS.out _ _ _ HB7.out⟩
                · have d7 : ((nn : Int) / 7 % 5 == 4) = false := by simp; omega
                  have d5 : decide (0 < kd) = true := decide_eq_true q5
                  go_wp2_with fail
                  go_meet
                  case rel => exact ⟨_, HR7.out, HBA2.out _ _ _ _, HB7.out⟩
              · have d5 : decide (0 < kd) = false := decide_eq_false q5
                go_wp2_with fail
                go_meet
                case rel => exact ⟨_, HR7.out, HBA2.out _ _ _ _, HB7.out⟩
          case rest =>
            obtain ⟨s, hr, hba, hb⟩ := hcut
            have hwr := HWR.out
            clear HRD HBA HB4 hkd hkdI hkd8 hy hz4
            -- is it observable?
            go_upto_if 108 with (fail)
            go_cut [] from 17 to 148 (fun V => ∃ s, Hid (Rd w.heap.size V wr.heap.size s (.slice Ao R.length co) R (.slice Af F.length cf) F w.heap.size) ∧ Hid (Bare s) ∧ Hid (Below w.heap.size w V))
            case first =>
              obtain ⟨⟨k0, n0, a0, ⟨mc, mh, mt, mi, mp⟩⟩, qB, qc, qs, ob, sB, sc, ms⟩ := s
              obtain ⟨x0, x1, x2, x3, x4, x5, x6, x7, x8, x9, x10⟩ := hr.out.x.cells
              have hfr := fun j => hr.out.x.free j
              have HOB := Lib.hid (show Bare ⟨⟨k0, n0, a0, ⟨mc, mh, mt, mi, mp⟩⟩, qB, qc, qs, true, sB, sc, ms⟩ from ⟨hba.out.q, hba.out.qB, hba.out.qc, hba.out.m, hba.out.sB, hba.out.sc, hba.out.n0, hba.out.n4⟩)
              by_cases q8 : nn / 11 % 6 = 5
              · have d8 : ((nn : Int) / 11 % 6 == 5) = true := by simp; omega
                go_wp2_with fail
                go_meet
                case rel => exact ⟨_, hr.out.set hba.out HOB.out rfl, HOB.out, hb.out.setCell (p := ⟨wr.heap.size, 9, none⟩) hwr _⟩
              · have d8 : ((nn : Int) / 11 % 6 == 5) = false := by simp; omega
                go_wp2_with fail
                go_meet
                case rel => exact ⟨_, hr.out, hba.out, hb.out⟩
            case rest =>
              clear hr hba hb
              obtain ⟨s, hr, hba, hb⟩ := hcut
              clear hwr
              obtain ⟨wo, hwo⟩ : ∃ W, W = wr := ⟨_, rfl⟩
              subst hwo
              obtain ⟨tt, htt⟩ : ∃ q, nn / 13 % 3 = q := ⟨_, rfl⟩
              have htI : (nn : Int) / 13 % 3 = (tt : Int) := by omega
              have ht2 : tt ≤ 2 := by omega
              clear htt
              obtain ⟨i0, hi0, hz0, hzz1, hz2⟩ := info_parts info_msD
              go_wp2_with fail
              go_loopw [6, 14] (fun f j V => ∃ (jj : Nat) (F2 : List NM.Ms) (s2 : DP.St), j = .int .i64 (jj : Int) ∧ jj ≤ tt ∧ s2.ms.length = jj ∧ F2.length ≤ F.length + jj ∧ (∃ A c, f = .slice A F2.length c) ∧ Hid (s2.qs = [] ∧ s2.qB = none ∧ s2.qc = 0) ∧ Hid (Rd w.heap.size V wo.heap.size s2 (.slice Ao R.length co) R f F2 w.heap.size) ∧ Hid (Below w.heap.size w V)) (fun _ j _ => tt - (intOf j).toNat)
              case atStart => exact ⟨0, F, s, rfl, Nat.zero_le _, by rw [hba.out.m]; rfl, Nat.le_refl _, ⟨_, _, rfl⟩, ⟨hba.out.q, hba.out.qB, hba.out.qc⟩, hr.out, hb.out⟩
              case round =>
                obtain ⟨jj, F2, s2, rfl, hjt, hsl, hF2, ⟨Af2, cf2, rfl⟩, hq, hr2, hb2⟩ := hrel
                clear hr hba hb
                by_cases hjt2 : jj < tt
                · obtain ⟨w2, hw2⟩ : ∃ W, W = wr := ⟨_, rfl⟩
                  subst hw2
                  obtain ⟨c0, c1, c2, hy⟩ := hr2.out.y
                  have y0 := cell_of_row w2 _ 0 _ _ (0, 0) hy
                  have y1 := cell_of_row w2 _ 1 _ _ (0, 0) hy
                  have y2 := cell_of_row w2 _ 2 _ _ (0, 0) hy
                  simp only [List.getElem?_toArray, List.getElem?_cons_zero, List.getElem?_cons_succ] at y0 y1 y2
                  obtain ⟨V1, hV1⟩ : ∃ U, w2.alloc (.cells #[.int .i64 c0, .int .i64 c1, .int .i64 c2, .int .i64 (jj : Int), .int .i64 0] 46) = U := ⟨_, rfl⟩
                  have HV1 := Lib.hid hV1
                  clear hV1 hy
                  go_upto_region 30 with (fail)
                  rw [HV1.out]
                  have hb1 : Below w2.heap.size w2 V1 := by rw [← HV1.out]; exact (Below.refl _ _).alloc (Nat.le_refl _) _
                  have hz1 : V1.heap.size = w2.heap.size + 1 := by rw [← HV1.out]; simp
                  have hmb : MsBx V1 w2.heap.size ⟨c0, c1, c2, (jj : Int), 0⟩ := by unfold MsBx; rw [← HV1.out]; exact World.alloc_heap_new w2 _
                  clear y0 y1 y2 HV1
                  have hr1 := hr2.out.below hb1
                  obtain ⟨V2, hV2⟩ : ∃ U, V1.alloc (.cells #[.int .i64 c0, .int .i64 c1, .int .i64 c2, .int .i64 (jj : Int), .int .i64 0] 46) = U := ⟨_, rfl⟩
                  have hb2' : Below V1.heap.size V1 V2 := by rw [← hV2]; exact (Below.refl _ _).alloc (Nat.le_refl _) _
                  have hz3 : V2.heap.size = w2.heap.size + 2 := by rw [← hV2]; simp [hz1]
                  have hr3 := hr1.below hb2'
                  have hnews : ∀ j u, (msE.f ⟨c0, c1, c2, (jj : Int), 0⟩)[j]? = some u → V2.cell? ((⟨w2.heap.size + 1, 0, none⟩ : Addr).add j) = some u := by
                    have := World.alloc_heap_new V1 (.cells #[.int .i64 c0, .int .i64 c1, .int .i64 c2, .int .i64 (jj : Int), .int .i64 0] 46)
                    rw [hV2, hz1] at this
                    exact fun j u hu => World.news_of_block this j u hu
                  obtain ⟨m0, m1, m2, m3, m4⟩ := hmb.cells
                  have x10 := hr1.x.cells.2.2.2.2.2.2.2.2.2.2
                  have hown := hr3.g.last.1.1.ms
                  have hmb2 := hmb.keep (show w2.heap.size < V1.heap.size by omega) hb2'
                  have hblt : ∀ x, (Value.slice s2.sB s2.ms.length s2.sc).ownBlock = some x → x < w2.heap.size := fun x e => (row_blk hr2.out.g.last.1.1.ms e).2.1
                  have HR3 := Lib.hid hr3
                  have HMB := Lib.hid hmb2
                  have HLT := Lib.hid hblt
                  have HB3 := Lib.hid (hb2.out.trans ((hb1.trans (hb2'.mono hb1.size)).mono hb2.out.size))
                  have HSL := Lib.hid hsl
                  have hs1 : s2.ms.length ≤ 1 := by omega
                  have hbs2 := hb2.out.size
                  clear hr1 hr3 hb1 hb2' hmb hmb2 hblt hsl hr2 hb2
                  go_upto_region 31 with (at_builtin
                                          refine wpList_append_nb rfl (.tmp 121) (.tmp 123) 50 rfl w.heap.size 46 i0 _ 5 40 Tryd.underlying50 hi0 hz0 hzz1 hz2 rfl (by decide) _ s2.ms.length _ rfl hown ⟨w2.heap.size + 1, 0, none⟩ 1 1 (msE.f ⟨c0, c1, c2, (jj : Int), 0⟩) rfl rfl hnews (msE.one _) (by simp only [maxLen]; omega) (by omega) (by omega) ?_
                                          intro A7 c7 w7 hown7 hgr7 hnb7
                                          have hr7 := HR3.out.sent (m := ⟨c0, c1, c2, (jj : Int), 0⟩) rfl hs1 hown7 hgr7 hnb7
                                          have hx7 := (HR3.out.box7 hgr7).cells.2.2.2.2.2.2.2.2.2.2
                                          have hf7 := (HR3.out.box7 hgr7).free 10
                                          have HX7 := Lib.hid (HR3.out.box7 hgr7)
                                          have hm7 : MsBx w7 w2.heap.size ⟨c0, c1, c2, (jj : Int), 0⟩ := (hgr7.block _ (show w2.heap.size < V2.heap.size by omega) (fun e => by have := HLT.out _ e.symm; omega)).trans HMB.out
                                          have hb7 : Below w.heap.size w w7 := HB3.out.grown hgr7 HB3.out.size (fun x e => (row_blk hown e).1)
                                          have hs7 := hgr7.size
                                          have HR7 := Lib.hid hr7
                                          have HM7 := Lib.hid hm7
                                          have HB7 := Lib.hid hb7
                                          clear hr7 hm7 hb7 hown7 hgr7 hnb7)
                  clear x10 hx7 hf7 hown hnews hV2 m0 m1 m2 m3 m4
                  have hbx7 : ∃ C, w7.heap[wo.heap.size]? = some (.cells C 52 (0, 0)) := ⟨_, HX7.out⟩
                  have hne : w2.heap.size ≠ wo.heap.size := by
                    obtain ⟨C, hC⟩ := hbx7
                    exact ty_ne HM7.out hC (by decide)
                  clear hbx7
                  obtain ⟨U8, hU8⟩ : ∃ U, w7.setCell ⟨wo.heap.size, 10, none⟩ (.slice A7 (s2.ms.length + 1) c7) = U := ⟨_, rfl⟩
                  have hr8 := HR7.out
                  rw [hU8] at hr8 ⊢
                  have hm8 : MsBx U8 w2.heap.size ⟨c0, c1, c2, (jj : Int), 0⟩ := by rw [← hU8]; exact (Below.heap_setCell _ _ _ _ hne).trans HM7.out
                  have hwo : w.heap.size ≤ wo.heap.size := HWR.out
                  have hb8 : Below w.heap.size w U8 := by rw [← hU8]; exact HB7.out.setCell (p := ⟨wo.heap.size, 10, none⟩) hwo _
                  clear hU8 HR7 HM7 HB7 hne HX7
                  obtain ⟨m0, m1, m2, m3, m4⟩ := hm8.cells
                  obtain ⟨V9, hV9⟩ : ∃ U, U8.alloc (.cells #[.int .i64 c0, .int .i64 c1, .int .i64 c2, .int .i64 (jj : Int), .int .i64 0] 46) = U := ⟨_, rfl⟩
                  have hb9' : Below U8.heap.size U8 V9 := by rw [← hV9]; exact (Below.refl _ _).alloc (Nat.le_refl _) _
                  have hz9 : V9.heap.size = U8.heap.size + 1 := by rw [← hV9]; simp
                  have hnews : ∀ j u, (msE.f ⟨c0, c1, c2, (jj : Int), 0⟩)[j]? = some u → V9.cell? ((⟨U8.heap.size, 0, none⟩ : Addr).add j) = some u := by
                    have := World.alloc_heap_new U8 (.cells #[.int .i64 c0, .int .i64 c1, .int .i64 c2, .int .i64 (jj : Int), .int .i64 0] 46)
                    rw [hV9] at this
                    exact fun j u hu => World.news_of_block this j u hu
                  have hr9 := hr8.below hb9'
                  have hown := hr9.g.fl
                  have HR9 := Lib.hid hr9
                  have HB9 := Lib.hid (hb8.trans (hb9'.mono hb8.size))
                  have hsz8 : w.heap.size ≤ V9.heap.size := by have := hb8.size; omega
                  clear hr8 hr9 hb8 hb9' hm8
                  have hF14 : F2.length ≤ 100 := by omega
                  go_wp2_with (at_builtin
                               refine wpList_append_nb rfl (.tmp 126) (.tmp 128) 50 rfl w.heap.size 46 i0 _ 5 40 Tryd.underlying50 hi0 hz0 hzz1 hz2 rfl (by decide) _ F2.length _ rfl hown ⟨U8.heap.size, 0, none⟩ 1 1 (msE.f ⟨c0, c1, c2, (jj : Int), 0⟩) rfl rfl hnews (msE.one _) (by simp only [maxLen]; omega) (by omega) hsz8 ?_
                               intro A8 c8 w8 hown8 hgr8 hnb8
                               have hr8' := HR9.out.fly (m := ⟨c0, c1, c2, (jj : Int), 0⟩) rfl hown8 hgr8 hnb8
                               have hb8' : Below w.heap.size w w8 := HB9.out.grown hgr8 HB9.out.size (fun x e => (row_blk hown e).1)
                               have HR8 := Lib.hid hr8'
                               have HB8 := Lib.hid hb8'
                               clear hr8' hb8' hown8 hgr8 hnb8)
                  go_roundw
                  case rel => exact ⟨jj + 1, F2 ++ [(⟨c0, c1, c2, (jj : Int), 0⟩ : NM.Ms)], (⟨s2.ev, s2.qB, s2.qc, s2.qs, s2.ob, A7, c7, s2.ms ++ [(⟨c0, c1, c2, (jj : Int), 0⟩ : NM.Ms)]⟩ : DP.St), by go_num, by omega, by simp [HSL.out], by simp; omega, ⟨A8, c8, by simp⟩, hq.out, HR8.out, HB8.out⟩
                  case measure => simp [intOf]; omega
                · obtain rfl : jj = tt := by omega
                  -- the question
                  go_upto_if 133 with (fail)
                  go_cut [] from 17 to 148 (fun V => ∃ s, Hid (Rd w.heap.size V wo.heap.size s (.slice Ao R.length co) R (.slice Af2 F2.length cf2) F2 w.heap.size) ∧ Hid (Below w.heap.size w V))
                  case first =>
                    obtain ⟨⟨k0, n0, a0, ⟨mc, mh, mt, mi, mp⟩⟩, qB, qc, qs, ob, sB, sc, ms⟩ := s2
                    obtain ⟨q1, q2, q3⟩ := hq.out
                    simp only at q1 q2 q3
                    subst q1 q2 q3
                    obtain ⟨c0, c1, c2, hy⟩ := hr2.out.y
                    have y0 := cell_of_row wr _ 0 _ _ (0, 0) hy
                    have y1 := cell_of_row wr _ 1 _ _ (0, 0) hy
                    have y2 := cell_of_row wr _ 2 _ _ (0, 0) hy
                    simp only [List.getElem?_toArray, List.getElem?_cons_zero, List.getElem?_cons_succ] at y0 y1 y2
                    obtain ⟨x0, x1, x2, x3, x4, x5, x6, x7, x8, x9, x10⟩ := hr2.out.x.cells
                    obtain ⟨iq, hiq, hzq, hzq1, hzq2⟩ := info_parts info_qaD
                    obtain ⟨V1, hV1⟩ : ∃ U, wr.alloc (.cells #[.int .i64 c0, .int .i64 c1, .int .i64 c2, .int .i64 1, .int .i64 0, .int .i64 2, .int .i64 ((nn : Int) / 51 % 2)] 59) = U := ⟨_, rfl⟩
                    have hb1 : Below wr.heap.size wr V1 := by rw [← hV1]; exact (Below.refl _ _).alloc (Nat.le_refl _) _
                    have hnews : ∀ j u, (qaE.f ⟨c0, c1, c2, 1, 0, 2, (nn : Int) / 51 % 2⟩)[j]? = some u → V1.cell? ((⟨wr.heap.size, 0, none⟩ : Addr).add j) = some u := by
                      have := World.alloc_heap_new wr (.cells #[.int .i64 c0, .int .i64 c1, .int .i64 c2, .int .i64 1, .int .i64 0, .int .i64 2, .int .i64 ((nn : Int) / 51 % 2)] 59)
                      rw [hV1] at this
                      exact fun j u hu => World.news_of_block this j u hu
                    have hr1 := hr2.out.below hb1
                    have hown : V1.ownsRow w.heap.size 59 7 (.slice none 0 0) 0 [] := World.ownsRow_nil _ _ _ _
                    have HR1 := Lib.hid hr1
                    have HB1 := Lib.hid (hb2.out.trans (hb1.mono hb2.out.size))
                    have hsz1 : w.heap.size ≤ V1.heap.size := (hb2.out.trans (hb1.mono hb2.out.size)).size
                    clear hr1 hb1 hy
                    by_cases q9 : nn / 17 % 3 = 2
                    · have d9 : ((nn : Int) / 17 % 3 == 2) = true := by simp; omega
                      go_wp2_with (at_builtin
                                   refine wpList_append_nb rfl (.tmp 135) (.tmp 142) 49 rfl w.heap.size 59 iq _ 7 56 Tryd.underlying49 hiq hzq hzq1 hzq2 rfl (by decide) _ 0 _ rfl hown ⟨wr.heap.size, 0, none⟩ 1 1 (qaE.f ⟨c0, c1, c2, 1, 0, 2, (nn : Int) / 51 % 2⟩) rfl rfl hnews (qaE.one _) (by simp only [maxLen]; omega) (by omega) hsz1 ?_
                                   intro A7 c7 w7 hown7 hgr7 hnb7
                                   have hr7 := HR1.out.ask hown7 hgr7
                                   have hx7 : StBx w7 wo.heap.size _ := (hgr7.block _ HR1.out.x.lt (fun e => by cases e)).trans HR1.out.x
                                   have hc7 := hx7.cells.2.2.2.2.2.2.2.2.1
                                   have hf7 := hx7.free 8
                                   have HB7 := Lib.hid (HB1.out.grown hgr7 HB1.out.size (fun x e => by cases e))
                                   have HR7 := Lib.hid hr7
                                   clear hr7 hx7 hown7 hgr7 hnb7)
                      go_meet
                      case rel => exact ⟨_, HR7.out, HB7.out.setCell (p := ⟨wo.heap.size, 8, none⟩) HWR.out _⟩
                    · have d9 : ((nn : Int) / 17 % 3 == 2) = false := by simp; omega
                      go_wp2_with fail
                      go_meet
                      case rel => exact ⟨_, hr2.out, hb2.out⟩
                  case rest =>
                    obtain ⟨s3, hr3, hb3⟩ := hcut
                    clear hr2 hb2 hq hsl
                    -- the step goes to the others
                    obtain ⟨is, his, hzs, hzs1, hzs2⟩ := info_parts info_stD
                    obtain ⟨x0, x1, x2, x3, x4, x5, x6, x7, x8, x9, x10⟩ := hr3.out.x.cells
                    obtain ⟨V1, hV1⟩ : ∃ U, wc.alloc (.cells #[.int .i64 s3.ev.k, .int .i64 s3.ev.n, .int .i64 s3.ev.a, .int .i64 s3.ev.m.c, .int .i64 s3.ev.m.h, .int .i64 s3.ev.m.t, .int .i64 s3.ev.m.i, .int .i64 s3.ev.m.p, .slice s3.qB s3.qs.length s3.qc, .bool s3.ob, .slice s3.sB s3.ms.length s3.sc] 52) = U := ⟨_, rfl⟩
                    have hb1 : Below wc.heap.size wc V1 := by rw [← hV1]; exact (Below.refl _ _).alloc (Nat.le_refl _) _
                    have hnews : ∀ j u, (stE.f s3)[j]? = some u → V1.cell? ((⟨wc.heap.size, 0, none⟩ : Addr).add j) = some u := by
                      have := World.alloc_heap_new wc (.cells #[.int .i64 s3.ev.k, .int .i64 s3.ev.n, .int .i64 s3.ev.a, .int .i64 s3.ev.m.c, .int .i64 s3.ev.m.h, .int .i64 s3.ev.m.t, .int .i64 s3.ev.m.i, .int .i64 s3.ev.m.p, .slice s3.qB s3.qs.length s3.qc, .bool s3.ob, .slice s3.sB s3.ms.length s3.sc] 52)
                      rw [hV1] at this
                      exact fun j u hu => World.news_of_block this j u hu
                    have hr1 := hr3.out.below hb1
                    have hown := hr1.g.out
                    have HR1 := Lib.hid hr1
                    have HB1 := Lib.hid (hb3.out.trans (hb1.mono hb3.out.size))
                    have hsz1 : w.heap.size ≤ V1.heap.size := (hb3.out.trans (hb1.mono hb3.out.size)).size
                    clear hr1 hb1
                    go_wp2_with (at_builtin
                                 refine wpList_append_nb rfl (.tmp 145) (.tmp 147) 23 rfl w.heap.size 52 is _ 11 120 Tryd.underlying23 his hzs hzs1 hzs2 rfl (by decide) _ R.length _ rfl hown ⟨wc.heap.size, 0, none⟩ 1 1 (stE.f s3) rfl rfl hnews (stE.one _) (by simp only [maxLen]; omega) (by omega) hsz1 ?_
                                 intro A7 c7 w7 hown7 hgr7 hnb7
                                 have HG7 := Lib.hid (HR1.out.done hown7 hgr7)
                                 have HB7 := Lib.hid (HB1.out.grown hgr7 HB1.out.size (fun x e => (row_blk hown e).1))
                                 clear hown7 hgr7 hnb7)
                    go_roundw
                    case rel => exact ⟨k + 1, R ++ [s3], F2, by go_num, by omega, by omega, by simp; omega, by omega, ⟨A7, c7, by simp⟩, ⟨Af2, cf2, rfl⟩, HG7.out, HB7.out⟩
                    case measure => simp [intOf]; omega
      · obtain rfl : k = 14 := by omega
        have d1 : decide (14 < n) = true := decide_eq_true hkn2
        go_wp2_with fail
        go_ret
        exact ⟨Ao, R.length, co, R, rfl, hg.out.run (by omega), by omega, fun s hs => (hg.out.inn s hs).2, hbl.out⟩
    · obtain rfl : k = n := by omega
      have d1 : decide (k < k) = false := by simp
      go_wp2_with fail
      go_ret
      exact ⟨Ao, R.length, co, R, rfl, hg.out.run (by omega), by omega, fun s hs => (hg.out.inn s hs).2, hbl.out⟩
end Go.Proofs.YtlomhoohmcnniaaDoor
