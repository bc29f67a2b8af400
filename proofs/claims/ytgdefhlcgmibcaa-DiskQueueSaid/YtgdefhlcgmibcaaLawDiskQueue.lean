/-
  The walk of DiskQueue. No condition.
-/
import Derived.Test.YtgdefhlcgmibcaaDkR
import Derived.Maps.AppendAt
namespace Go.Proofs.Ytgdefhlcgmibcaa.LawDiskQueue
open Go Go.RowKit Go.Proofs Go.Proofs.Ytgdefhlcgmibcaa
attribute [local go_sem] Oper.semAt_some

/-- The writes that these numbers make. -/
def wsOf (k : Nat) (zs : List Int) : List DK.Wr := zs.map fun z => (around z 1000 % (k : Int), around z 1000)
theorem ws_in {k : Nat} (hk : 0 < k) (zs : List Int) : ∀ x ∈ wsOf k zs, 0 ≤ x.1 ∧ x.1 < (k : Int) := fun x hx => by
  obtain ⟨z, _, rfl⟩ := List.mem_map.1 hx
  exact ⟨Int.emod_nonneg _ (by omega), Int.emod_lt_of_pos _ (by omega)⟩
theorem ws_take_in {k : Nat} (hk : 0 < k) (zs : List Int) (j : Nat) : ∀ x ∈ (wsOf k zs).take j, 0 ≤ x.1 ∧ x.1 < (k : Int) := fun x hx => ws_in hk zs x (List.mem_of_mem_take hx)
def fsts (ws : List DK.Wr) : List Int := ws.map Prod.fst
def snds (ws : List DK.Wr) : List Int := ws.map Prod.snd
theorem own_int {V : World} {base n c : Nat} {B : Option Addr} {l : List Int} {i : Nat} {x : Int} (h : V.ownsRow base 3 1 (.slice B n c) n (DK.intsC l)) (hx : l[i]? = some x) (hi : i < n) : ∃ g, B = some ⟨g, 0, none⟩ ∧ g < V.heap.size ∧ V.cell? ⟨g, i, none⟩ = some (.int .i64 x) := by
  have hcl : Cls base V B n c l := Rw.of_own h
  obtain ⟨g, off, y, e, _, hg, hy, hc⟩ := hcl.at_ (k := i) hi
  obtain ⟨g', cur, e', _, _⟩ := own_cells h (by omega)
  rw [e] at e'
  injection e' with e'
  injection e' with e1 e2
  subst e1
  subst e2
  rw [hx] at hy
  injection hy with hy
  subst hy
  exact ⟨g, e, hg, by rw [Nat.zero_add] at hc; exact hc⟩
set_option maxHeartbeats 8000000 in
set_option maxRecDepth 100000 in
theorem walk (a0 : Int) (a1 : Option Addr) (len1 cap1 : Nat) (z1 : List Int) (w : World) (w0 : (Lit.int .i64 a0).wf = true) (w1 : Row .i64 w a1 len1 cap1 z1) :
    Calls Try.prog 7 #[.int .i64 a0, .slice a1 len1 cap1] w fun e w' => e = .returned (.bool true) ∧ Below w.heap.size w w' := by
  have hc : I64 a0 := by have := bounds_i64 w0; unfold I64; omega
  obtain ⟨hz, _, _, hwf⟩ := w1.ints
  obtain ⟨zs, hzs⟩ : ∃ zs, z1.take len1 = zs := ⟨_, rfl⟩
  rw [hzs] at hz hwf
  have HZ := Lib.hid (And.intro hz (i64_of hwf))
  clear w0 w1 hzs hwf hz
  obtain ⟨k0, hk0⟩ : ∃ k0 : Nat, around a0 6 = (k0 : Int) := ⟨_, (Int.toNat_of_nonneg (around_in a0 6 (by omega)).1).symm⟩
  obtain ⟨k, hk⟩ : ∃ k, k0 + 1 = k := ⟨_, rfl⟩
  have hk6 : k ≤ 6 := by have := (around_in a0 6 (by omega)).2; omega
  have hk1 : 1 ≤ k := by omega
  have HA := Lib.hid (fun V => around_any a0 6 hc (by omega) (by omega) V)
  rw [hk0] at HA
  have hw1 : IntKind.i64.wrap (1 + (k0 : Int)) = (k : Int) := by rw [IntWalk.i64_in _ (by omega)]; omega
  have hmk := dk_make_ints k (by omega)
  have HNW := Lib.hid (new_any k (by omega) w)
  obtain ⟨i0, hi, hy0, hy1, hy2⟩ := dk_info dk_int
  have HI := Lib.hid (And.intro hi (And.intro hy0 (And.intro hy1 hy2)))
  clear hc hk0 hk hi hy0 hy1 hy2
  go_enter Try.func7, Try.ntmps7
  go_upto_region 3 with (first | (go_at_call 11; refine (HA.out _).mono ?_; rintro e w2 ⟨rfl, rfl⟩) | (go_at_call 12; refine HNW.out.mono ?_; rintro e w2 ⟨⟨y, rfl, A2, n2, c2, P2, m2, q2, rfl, j1, j2⟩, hb2⟩; have HJ := Lib.hid (And.intro (show DkAt 0 w2 (.agg #[.slice A2 n2 c2, .slice P2 m2 q2]) (DK.new k) from ⟨A2, n2, c2, P2, m2, q2, rfl, j1.more (Nat.zero_le _), j2.more (Nat.zero_le _)⟩) hb2); clear j1 j2 hb2) | (refine dk_store rfl _ _ rfl w2.heap.size A2 n2 c2 P2 m2 q2 _ _ rfl rfl (dk_new_at rfl) ?_; intro v3 k3 ho3 hz3 hb3))
  have H3 := Lib.hid (And.intro k3 (And.intro (HJ.out.1.keep ((dk_box w2 _).trans hb3)) (HJ.out.2.trans (((dk_box w2 _).trans hb3).mono HJ.out.2.size))))
  obtain ⟨U, hU⟩ : ∃ U, v3.alloc (.cells (Array.replicate k (.int .i64 0)) 3) = U := ⟨_, rfl⟩
  have hbU : Below v3.heap.size v3 U := hU ▸ dk_box v3 _
  have hsU : U.heap.size = v3.heap.size + 1 := by rw [← hU]; simp
  have H4 := Lib.hid (And.intro ((hbU.block _ (blk_lt H3.out.1)).trans H3.out.1) (And.intro (H3.out.2.1.keep hbU) (And.intro (H3.out.2.2.trans (hbU.mono H3.out.2.2.size)) (show U.heap[v3.heap.size]? = some (.cells (DK.intsC (List.replicate k 0)).toArray 3 (0, 0)) by rw [← hU, ← zeros_ints]; exact dk_new_at rfl))))
  have hwv : w2.heap.size < v3.heap.size := blk_lt H3.out.1
  have hww : w.heap.size ≤ w2.heap.size := HJ.out.2.size
  clear k3 ho3 hz3 hb3 hbU HNW HA
  go_wp2_with fail
  clear hU hw1 hmk
  go_loopw [8, 9, 10] (fun x y i V => ∃ (j : Nat) (Bx By A n c P m q : _) (cx cy : Nat), j ≤ len1 ∧ j ≤ 20 ∧ i = .int .i64 (j : Int) ∧ x = .slice Bx j cx ∧ y = .slice By j cy ∧ Hid (V.ownsRow w.heap.size 3 1 (.slice Bx j cx) j (DK.intsC (fsts ((wsOf k zs).take j)))) ∧ Hid (V.ownsRow w.heap.size 3 1 (.slice By j cy) j (DK.intsC (snds ((wsOf k zs).take j)))) ∧ Hid (V.heap[w2.heap.size]? = some (.cells #[.slice A n c, .slice P m q] 26 (0, 0))) ∧ Hid (DkAt 0 V (.agg #[.slice A n c, .slice P m q]) (DK.queue k ((wsOf k zs).take j))) ∧ Hid (V.heap[v3.heap.size]? = some (.cells (DK.intsC (DK.app (List.replicate k 0) ((wsOf k zs).take (j - 4)))).toArray 3 (0, 0))) ∧ Hid (Below w.heap.size w V) ∧ Hid ((Value.slice Bx j cx).ownBlock ≠ some v3.heap.size ∧ (Value.slice By j cy).ownBlock ≠ some v3.heap.size ∧ ∀ b, (Value.slice Bx j cx).ownBlock = some b → (Value.slice By j cy).ownBlock ≠ some b)) (fun _ _ i _ => 20 - (intOf i).toNat)
  case atStart => exact ⟨0, none, none, A2, n2, c2, P2, m2, q2, 0, 0, by omega, by omega, rfl, rfl, rfl, ⟨rfl, .inl ⟨rfl, rfl⟩⟩, ⟨rfl, .inl ⟨rfl, rfl⟩⟩, H4.out.1, H4.out.2.1, H4.out.2.2.2, H4.out.2.2.1, ⟨fun e => (by cases e), fun e => (by cases e), fun b e => (by cases e)⟩⟩
  case round =>
    obtain ⟨j, Bx, By, A, n, c, P, m, q, cx, cy, hj, hj20, rfl, rfl, rfl, HX, HY, HD1, HD2, HW, HB, HNE⟩ := hrel
    by_cases hin : j < len1
    · have dj : decide (j < len1) = true := decide_eq_true hin
      by_cases hin2 : j < 20
      · have dj2 : decide (j < 20) = true := decide_eq_true hin2
        obtain ⟨b, off, rfl, hb, hcl⟩ := HZ.out.1.at_ (by omega)
        have hck := (HB.out.cell (p := ⟨b, off + j, none⟩) hb).trans (hcl j hin)
        obtain ⟨z, hzk⟩ : ∃ z, zs[j]? = some z := ⟨_, List.getElem?_eq_getElem (by rw [HZ.out.1.len]; exact hin)⟩
        rw [hzk] at hck
        have hck : wr.cell? ⟨b, off + j, none⟩ = some (.int .i64 z) := hck
        have HA := Lib.hid (fun V => around_any z 1000 (HZ.out.2 z (List.mem_of_getElem? hzk)) (by omega) (by omega) V)
        obtain ⟨N, hN⟩ : ∃ N : Nat, around z 1000 = (N : Int) := ⟨_, (Int.toNat_of_nonneg (around_in z 1000 (by omega)).1).symm⟩
        obtain ⟨r, hr⟩ : ∃ r : Nat, N % k = r := ⟨_, rfl⟩
        have hrk : r < k := by rw [← hr]; exact Nat.mod_lt _ hk1
        have hrr : (N : Int) % (k : Int) = (r : Int) := by rw [← hr]; omega
        have hwj : (wsOf k zs)[j]? = some ((r : Int), (N : Int)) := by unfold wsOf; rw [List.getElem?_map, hzk, Option.map_some, hN, hrr]
        have HWJ := Lib.hid (show (wsOf k zs).take (j + 1) = (wsOf k zs).take j ++ [((r : Int), (N : Int))] by rw [List.take_add_one, hwj]; rfl)
        rw [hN] at HA
        have hkz : ((k : Int) == 0) = false := by simp; omega
        have hkn : ¬ k = 0 := by omega
        have htm : ((N : Int).tmod (k : Int)) = (r : Int) := by rw [Int.tmod_eq_emod_of_nonneg (by omega)]; exact hrr
        clear hcl hzk hN
        go_upto_region 10 with (go_at_call 11; refine (HA.out _).mono ?_; rintro e w4 ⟨rfl, rfl⟩)
        clear hck
        obtain ⟨vo, hvo⟩ : ∃ W, W = wr := ⟨_, rfl⟩
        subst hvo
        refine RgX.tail 6 (fun i => ( 34 + i)) (fun ix_ => match ix_ with | 0 => .v (.agg #[.slice A n c, .slice P m q]) | 1 => .v (.int .i64 (N : Int)) | 2 => .v (.int .i64 (k : Int)) | 3 => .v (.int .i64 (r : Int)) | 4 => .v (.int .i64 (N : Int)) | 5 => .dkv vo.heap.size (DK.write (DK.queue k ((wsOf k zs).take j)) (r : Int) (N : Int)) | _ => .any) _ (by kernel_rfl) rfl rfl (by kernel_rfl) (by kernel_rfl) (fun i hi => by show ( 34 + i) < 79; (repeat' split) <;> omega) (fun i j hi hj => by show ( 34 + i) = ( 34 + j) → i = j; (repeat' split) <;> omega) ?step ?fin
        case step =>
          intro L_ A_ w3 ix op_ hi hI ho hdep
          have hcase : ix = 0 ∨ ix = 1 ∨ ix = 2 ∨ ix = 3 ∨ ix = 4 ∨ ix = 5 := by omega
          have hh := hI.held
          clear hi
          rcases hcase with rfl | rfl | rfl | rfl | rfl | rfl
          · simp only [List.getElem?_toArray, List.getElem?_cons_zero, Option.some.injEq] at ho
            subst ho
            refine ⟨rfl, ?_⟩
            have e6 : A_.tmps[6]?.getD undef = .pointer (some ⟨w2.heap.size, 0, none⟩) := by rw [hI.low 6 (by decide)]; rfl
            clear hI hdep
            obtain ⟨d0, d1⟩ := dk_two ((hh.block _ (blk_lt HD1.out)).trans HD1.out)
            exact .run rfl (.agg #[.slice A n c, .slice P m q]) w3 (by simp [execOp, go_sem, Act.eval, *]) (Below.refl _ _) rfl
          · simp only [List.getElem?_toArray, List.getElem?_cons_succ, List.getElem?_cons_zero, Option.some.injEq] at ho
            subst ho
            refine ⟨rfl, ?_⟩
            have e11 : A_.tmps[11]?.getD undef = .int .i64 (N : Int) := by rw [hI.low 11 (by decide)]; rfl
            clear hI hdep
            exact .run rfl (.int .i64 (N : Int)) w3 (by simp [execOp, go_sem, Act.eval, e11]) (Below.refl _ _) rfl
          · simp only [List.getElem?_toArray, List.getElem?_cons_succ, List.getElem?_cons_zero, Option.some.injEq] at ho
            subst ho
            refine ⟨rfl, ?_⟩
            have e5 : A_.tmps[5]?.getD undef = .int .i64 (k : Int) := by rw [hI.low 5 (by decide)]; rfl
            clear hI hdep
            exact .run rfl (.int .i64 (k : Int)) w3 (by simp [execOp, go_sem, Act.eval, e5]) (Below.refl _ _) rfl
          · simp only [List.getElem?_toArray, List.getElem?_cons_succ, List.getElem?_cons_zero, Option.some.injEq] at ho
            subst ho
            refine ⟨rfl, ?_⟩
            have e35 : A_.tmps[35]?.getD undef = .int .i64 (N : Int) := getD_of (hI.val_ (i := 1) rfl rfl (by decide) (hdep ⟨1, .data⟩ (by simp) rfl))
            have e36 : A_.tmps[36]?.getD undef = .int .i64 (k : Int) := getD_of (hI.val_ (i := 2) rfl rfl (by decide) (hdep ⟨2, .data⟩ (by simp) rfl))
            clear hI hdep
            exact .run rfl (.int .i64 (r : Int)) w3 (by simp [execOp, go_sem, Act.eval, e35, e36, hkn, htm]) (Below.refl _ _) rfl
          · simp only [List.getElem?_toArray, List.getElem?_cons_succ, List.getElem?_cons_zero, Option.some.injEq] at ho
            subst ho
            refine ⟨rfl, ?_⟩
            have e11 : A_.tmps[11]?.getD undef = .int .i64 (N : Int) := by rw [hI.low 11 (by decide)]; rfl
            clear hI hdep
            exact .run rfl (.int .i64 (N : Int)) w3 (by simp [execOp, go_sem, Act.eval, e11]) (Below.refl _ _) rfl
          · simp only [List.getElem?_toArray, List.getElem?_cons_succ, List.getElem?_cons_zero, Option.some.injEq] at ho
            subst ho
            refine ⟨rfl, ?_⟩
            have e34 : A_.tmps[34]?.getD undef = .agg #[.slice A n c, .slice P m q] := getD_of (hI.val_ (i := 0) rfl rfl (by decide) (hdep ⟨0, .data⟩ (by simp) rfl))
            have e37 : A_.tmps[37]?.getD undef = .int .i64 (r : Int) := getD_of (hI.val_ (i := 3) rfl rfl (by decide) (hdep ⟨3, .data⟩ (by simp) rfl))
            have e38 : A_.tmps[38]?.getD undef = .int .i64 (N : Int) := getD_of (hI.val_ (i := 4) rfl rfl (by decide) (hdep ⟨4, .data⟩ (by simp) rfl))
            clear hI hdep
            exact .call rfl 23 #[.agg #[.slice A n c, .slice P m q], .int .i64 (r : Int), .int .i64 (N : Int)] (by simp [go_sem, Act.eval, e34, e37, e38]) (RgX.dkv_calls (write_any (r : Int) (N : Int) w3 (HD2.out.keep hh) (by rw [DK.queue_len]; omega) (by have := (DK.queue_ok k (by omega) ((wsOf k zs).take j)).pend; omega)) hh.size)
        case fin =>
        intro A_ w3 hs hd hlow hS hok
        obtain ⟨_, hy39, A39, n39, c39, P39, m39, q39, rfl, h39, k39⟩ := hok 5 39 _ (by decide) rfl rfl
        obtain rfl : A_ = ⟨#[.int .i64 a0, .slice (some { block := b, off := off }) len1 cap1, undef, undef, u4, .int .i64 (k : Int), .pointer (some ⟨w2.heap.size, 0, none⟩), .slice (some ⟨v3.heap.size, 0, none⟩) k k, .slice Bx j cx, .slice By j cy, .int .i64 (j : Int), .int .i64 (N : Int), .int .i64 a0, .int .i64 (k0 : Int), .int .i64 (k : Int), .int .i64 (k : Int), .agg #[.slice A2 n2 c2, .slice P2 m2 q2], .int .i64 (k : Int), .slice (some ⟨v3.heap.size, 0, none⟩) k k, .int .i64 (j : Int), .slice (some { block := b, off := off }) len1 cap1, .int .i64 (len1 : Int), .bool true, .bool true, .int .i64 (j : Int), .bool true, .bool true, u27, u28, .slice (some { block := b, off := off }) len1 cap1, .int .i64 (j : Int), .pointer (some { block := b, off := off + j }), .int .i64 z, .int .i64 (N : Int), .agg #[.slice A n c, .slice P m q], .int .i64 (N : Int), .int .i64 (k : Int), .int .i64 (r : Int), .int .i64 (N : Int), .agg #[.slice A39 n39 c39, .slice P39 m39 q39], u40, u41, u42, u43, u44, u45, u46, u47, u48, u49, u50, u51, u52, u53, u54, u55, u56, u57, u58, u59, u60, u61, u62, u63, u64, u65, u66, u67, u68, u69, u70, u71, u72, u73, u74, u75, u76, u77, undef], []⟩ := act_ext hd hs (fun j hj => match j, hj with | 0, _ => (hlow 0 (by decide)).trans rfl | 1, _ => (hlow 1 (by decide)).trans rfl | 2, _ => (hlow 2 (by decide)).trans rfl | 3, _ => (hlow 3 (by decide)).trans rfl | 4, _ => (hlow 4 (by decide)).trans rfl | 5, _ => (hlow 5 (by decide)).trans rfl | 6, _ => (hlow 6 (by decide)).trans rfl | 7, _ => (hlow 7 (by decide)).trans rfl | 8, _ => (hlow 8 (by decide)).trans rfl | 9, _ => (hlow 9 (by decide)).trans rfl | 10, _ => (hlow 10 (by decide)).trans rfl | 11, _ => (hlow 11 (by decide)).trans rfl | 12, _ => (hlow 12 (by decide)).trans rfl | 13, _ => (hlow 13 (by decide)).trans rfl | 14, _ => (hlow 14 (by decide)).trans rfl | 15, _ => (hlow 15 (by decide)).trans rfl | 16, _ => (hlow 16 (by decide)).trans rfl | 17, _ => (hlow 17 (by decide)).trans rfl | 18, _ => (hlow 18 (by decide)).trans rfl | 19, _ => (hlow 19 (by decide)).trans rfl | 20, _ => (hlow 20 (by decide)).trans rfl | 21, _ => (hlow 21 (by decide)).trans rfl | 22, _ => (hlow 22 (by decide)).trans rfl | 23, _ => (hlow 23 (by decide)).trans rfl | 24, _ => (hlow 24 (by decide)).trans rfl | 25, _ => (hlow 25 (by decide)).trans rfl | 26, _ => (hlow 26 (by decide)).trans rfl | 27, _ => (hlow 27 (by decide)).trans rfl | 28, _ => (hlow 28 (by decide)).trans rfl | 29, _ => (hlow 29 (by decide)).trans rfl | 30, _ => (hlow 30 (by decide)).trans rfl | 31, _ => (hlow 31 (by decide)).trans rfl | 32, _ => (hlow 32 (by decide)).trans rfl | 33, _ => (hlow 33 (by decide)).trans rfl | 34, _ => RgX.val_at (hok 0 34 _ (by decide) rfl rfl) | 35, _ => RgX.val_at (hok 1 35 _ (by decide) rfl rfl) | 36, _ => RgX.val_at (hok 2 36 _ (by decide) rfl rfl) | 37, _ => RgX.val_at (hok 3 37 _ (by decide) rfl rfl) | 38, _ => RgX.val_at (hok 4 38 _ (by decide) rfl rfl) | 39, _ => hy39 | 40, _ => (hlow 40 (by decide)).trans rfl | 41, _ => (hlow 41 (by decide)).trans rfl | 42, _ => (hlow 42 (by decide)).trans rfl | 43, _ => (hlow 43 (by decide)).trans rfl | 44, _ => (hlow 44 (by decide)).trans rfl | 45, _ => (hlow 45 (by decide)).trans rfl | 46, _ => (hlow 46 (by decide)).trans rfl | 47, _ => (hlow 47 (by decide)).trans rfl | 48, _ => (hlow 48 (by decide)).trans rfl | 49, _ => (hlow 49 (by decide)).trans rfl | 50, _ => (hlow 50 (by decide)).trans rfl | 51, _ => (hlow 51 (by decide)).trans rfl | 52, _ => (hlow 52 (by decide)).trans rfl | 53, _ => (hlow 53 (by decide)).trans rfl | 54, _ => (hlow 54 (by decide)).trans rfl | 55, _ => (hlow 55 (by decide)).trans rfl | 56, _ => (hlow 56 (by decide)).trans rfl | 57, _ => (hlow 57 (by decide)).trans rfl | 58, _ => (hlow 58 (by decide)).trans rfl | 59, _ => (hlow 59 (by decide)).trans rfl | 60, _ => (hlow 60 (by decide)).trans rfl | 61, _ => (hlow 61 (by decide)).trans rfl | 62, _ => (hlow 62 (by decide)).trans rfl | 63, _ => (hlow 63 (by decide)).trans rfl | 64, _ => (hlow 64 (by decide)).trans rfl | 65, _ => (hlow 65 (by decide)).trans rfl | 66, _ => (hlow 66 (by decide)).trans rfl | 67, _ => (hlow 67 (by decide)).trans rfl | 68, _ => (hlow 68 (by decide)).trans rfl | 69, _ => (hlow 69 (by decide)).trans rfl | 70, _ => (hlow 70 (by decide)).trans rfl | 71, _ => (hlow 71 (by decide)).trans rfl | 72, _ => (hlow 72 (by decide)).trans rfl | 73, _ => (hlow 73 (by decide)).trans rfl | 74, _ => (hlow 74 (by decide)).trans rfl | 75, _ => (hlow 75 (by decide)).trans rfl | 76, _ => (hlow 76 (by decide)).trans rfl | 77, _ => (hlow 77 (by decide)).trans rfl | 78, _ => (hlow 78 (by decide)).trans rfl | n + 79, h => absurd h (by show ¬ n + 79 < 79; omega))
        clear hs hd hlow hok hy39
        have hk1' := (hS.block _ (blk_lt HD1.out)).trans HD1.out
        refine dk_store rfl _ _ rfl w2.heap.size A39 n39 c39 P39 m39 q39 _ _ rfl rfl hk1' ?_
        intro u1 kb1 ho1 hz1 hb1
        have hkd : KeepD vo u1 := (KeepD.of_below hS).trans (KeepD.of_store hk1' ho1)
        have hq : DK.write (DK.queue k ((wsOf k zs).take j)) (r : Int) (N : Int) = DK.queue k ((wsOf k zs).take (j + 1)) := by rw [HWJ.out, DK.queue_snoc]
        rw [hq] at h39 k39
        have c1 : Cls vo.heap.size u1 A39 n39 c39 (DK.queue k ((wsOf k zs).take (j + 1))).cells := Rw.keepD h39 (KeepD.of_store hk1' ho1) (by decide)
        have p1 : Wrs vo.heap.size u1 P39 m39 q39 (DK.queue k ((wsOf k zs).take (j + 1))).pend := Rw.keepD k39 (KeepD.of_store hk1' ho1) (by decide)
        have x1 := own_keepD HX.out hkd (by decide)
        have y1 := own_keepD HY.out hkd (by decide)
        have hwb := blk_lt HW.out
        have b1 := blk_lt HD1.out
        have wt1 := (hkd _ _ _ HW.out (by decide)).trans HW.out
        have B1 : Below w.heap.size w u1 := (HB.out.trans (hS.mono HB.out.size)).trans (hb1.mono (by omega))
        have hsz1 : vo.heap.size ≤ u1.heap.size := by rw [hz1]; exact hS.size
        have XL := own_lt HX.out
        have YL := own_lt HY.out
        obtain ⟨N1, N2, N3⟩ := HNE.out
        have HA1 := Lib.hid (And.intro c1 (And.intro p1 (And.intro x1 (And.intro y1 (And.intro kb1 (And.intro wt1 B1))))))
        have HB1 := Lib.hid (And.intro hsz1 (And.intro XL (And.intro YL (And.intro N1 (And.intro N2 (And.intro N3 (And.intro hwb b1)))))))
        clear h39 k39 hk1' kb1 ho1 hz1 hb1 hkd hq c1 p1 x1 y1 wt1 B1 XL YL N1 N2 N3 hS HX HY HD1 HD2 HW HB HNE hwb b1 hsz1
        go_upto_region 11 with fail
        obtain ⟨Y1, hY1⟩ : ∃ Y, u1.alloc (.cells #[.int .i64 (r : Int)] 3) = Y := ⟨_, rfl⟩
        have hbY1 : Below u1.heap.size u1 Y1 := hY1 ▸ dk_box u1 _
        have hzY1 : Y1.heap.size = u1.heap.size + 1 := by rw [← hY1]; simp
        have HSY1 := Lib.hid (show ∀ (i : Nat) (x : Value), [Value.int .i64 (r : Int)][i]? = some x → Y1.cell? ((⟨u1.heap.size, 0, none⟩ : Addr).add i) = some x from fun i x hx => by
          match i, hx with
          | 0, hx => injection hx with hx; subst hx; rw [← hY1]; exact cell_of_row _ _ 0 _ _ (0, 0) (dk_new_at rfl))
        have H1Y1 := Lib.hid (show ∀ x ∈ [Value.int .i64 (r : Int)], x.oneCell' = true by intro x hx; simp at hx; rw [hx]; rfl)
        have HMY1 := Lib.hid (And.intro (show j + 1 ≤ maxLen by simp only [maxLen]; omega) (show (j + 1) * 8 ≤ 140737488355328 by omega))
        have HOY1 := Lib.hid (And.intro (dk_own_keep (HA1.out.2.2.1) hbY1) (show w.heap.size ≤ Y1.heap.size by have := HA1.out.2.2.2.2.2.2.size; omega))
        go_upto_region 12 with (at_builtin; refine wpList_append_own_at _ rfl _ _ 22 rfl w.heap.size 3 i0 _ 1 8 Try.underlying22 HI.out.1 HI.out.2.1 HI.out.2.2.1 HI.out.2.2.2 rfl (by decide) _ j (DK.intsC (fsts ((wsOf k zs).take j))) rfl HOY1.out.1 ⟨u1.heap.size, 0, none⟩ 1 1 [.int .i64 (r : Int)] rfl rfl HSY1.out H1Y1.out HMY1.out.1 HMY1.out.2 HOY1.out.2 ?_; intro vv u2 hou2 hgu2 _ hatu2)
        obtain ⟨BX, cX, rfl⟩ := dk_own_slice hou2
        have hou2 : u2.ownsRow w.heap.size 3 1 (.slice BX (j + 1) cX) (j + 1) (DK.intsC (fsts ((wsOf k zs).take (j + 1)))) := by
          have := hou2
          rw [show DK.intsC (fsts ((wsOf k zs).take (j + 1))) = DK.intsC (fsts ((wsOf k zs).take j)) ++ [.int .i64 (r : Int)] by rw [HWJ.out]; unfold DK.intsC fsts; simp]
          exact this
        obtain ⟨hsz1, XL, YL, N1, N2, N3, hwb, hbb⟩ := HB1.out
        obtain ⟨c1, p1, x1, y1, kb1, wt1, B1⟩ := HA1.out
        have x1y := dk_own_keep x1 hbY1
        have y1y := dk_own_keep y1 hbY1
        have kb1y := (hbY1.block _ (blk_lt kb1)).trans kb1
        have c2 := grown_keep (Rw.keep c1 hbY1) x1y hgu2 XL
        have p2 := grown_keep (Rw.keep p1 hbY1) x1y hgu2 XL
        have y2 := grown_own y1y hgu2 N3
        have kb2 := grown_blk kb1y hgu2 (own_ne_disk x1y kb1y)
        have wt2 := grown_blk ((hbY1.block _ (blk_lt wt1)).trans wt1) hgu2 N1
        have B2 := dk_grown x1y (B1.trans (hbY1.mono B1.size)) hgu2 (by have := B1.size; omega)
        have sz2 : Y1.heap.size ≤ u2.heap.size := hgu2.size
        have NX1 : (Value.slice BX (j + 1) cX).ownBlock ≠ some v3.heap.size := by
          rcases hatu2 with e | e
          · rw [e]; exact N1
          · rw [e]; intro e2; injection e2 with e2; omega
        have NX3 : ∀ b, (Value.slice By j cy).ownBlock = some b → (Value.slice BX (j + 1) cX).ownBlock ≠ some b := fun b hb => by
          have hl := YL b hb
          rcases hatu2 with e | e
          · rw [e]; intro e2; exact N3 b e2 hb
          · rw [e]; intro e2; injection e2 with e2; omega
        have HA2 := Lib.hid (And.intro c2 (And.intro p2 (And.intro hou2 (And.intro y2 (And.intro kb2 (And.intro wt2 B2))))))
        have HB2 := Lib.hid (And.intro (show vo.heap.size ≤ u2.heap.size by omega) (And.intro YL (And.intro NX1 (And.intro N2 (And.intro NX3 (And.intro hwb hbb))))))
        clear hsz1 XL YL N1 N2 N3 hwb hbb c1 p1 x1 y1 kb1 wt1 B1 x1y y1y kb1y c2 p2 y2 kb2 wt2 B2 sz2 NX1 NX3 HA1 HB1 hou2 hgu2 hatu2 hY1 hbY1 hzY1 HSY1 H1Y1 HMY1 HOY1
        obtain ⟨Y2, hY2⟩ : ∃ Y, u2.alloc (.cells #[.int .i64 (N : Int)] 3) = Y := ⟨_, rfl⟩
        have hbY2 : Below u2.heap.size u2 Y2 := hY2 ▸ dk_box u2 _
        have hzY2 : Y2.heap.size = u2.heap.size + 1 := by rw [← hY2]; simp
        have HSY2 := Lib.hid (show ∀ (i : Nat) (x : Value), [Value.int .i64 (N : Int)][i]? = some x → Y2.cell? ((⟨u2.heap.size, 0, none⟩ : Addr).add i) = some x from fun i x hx => by
          match i, hx with
          | 0, hx => injection hx with hx; subst hx; rw [← hY2]; exact cell_of_row _ _ 0 _ _ (0, 0) (dk_new_at rfl))
        have H1Y2 := Lib.hid (show ∀ x ∈ [Value.int .i64 (N : Int)], x.oneCell' = true by intro x hx; simp at hx; rw [hx]; rfl)
        have HMY2 := Lib.hid (And.intro (show j + 1 ≤ maxLen by simp only [maxLen]; omega) (show (j + 1) * 8 ≤ 140737488355328 by omega))
        have HOY2 := Lib.hid (And.intro (dk_own_keep (HA2.out.2.2.2.1) hbY2) (show w.heap.size ≤ Y2.heap.size by have := HA2.out.2.2.2.2.2.2.size; omega))
        go_upto_region 13 with (at_builtin; refine wpList_append_own_at _ rfl _ _ 22 rfl w.heap.size 3 i0 _ 1 8 Try.underlying22 HI.out.1 HI.out.2.1 HI.out.2.2.1 HI.out.2.2.2 rfl (by decide) _ j (DK.intsC (snds ((wsOf k zs).take j))) rfl HOY2.out.1 ⟨u2.heap.size, 0, none⟩ 1 1 [.int .i64 (N : Int)] rfl rfl HSY2.out H1Y2.out HMY2.out.1 HMY2.out.2 HOY2.out.2 ?_; intro vv u3 hou3 hgu3 _ hatu3)
        obtain ⟨BY, cY, rfl⟩ := dk_own_slice hou3
        have hou3 : u3.ownsRow w.heap.size 3 1 (.slice BY (j + 1) cY) (j + 1) (DK.intsC (snds ((wsOf k zs).take (j + 1)))) := by
          have := hou3
          rw [show DK.intsC (snds ((wsOf k zs).take (j + 1))) = DK.intsC (snds ((wsOf k zs).take j)) ++ [.int .i64 (N : Int)] by rw [HWJ.out]; unfold DK.intsC snds; simp]
          exact this
        obtain ⟨hsz2, YL, NX1, N2, NX3, hwb, hbb⟩ := HB2.out
        obtain ⟨c2, p2, x2, y2, kb2, wt2, B2⟩ := HA2.out
        have x2y := dk_own_keep x2 hbY2
        have y2y := dk_own_keep y2 hbY2
        have kb2y := (hbY2.block _ (blk_lt kb2)).trans kb2
        have c3 := grown_keep (Rw.keep c2 hbY2) y2y hgu3 YL
        have p3 := grown_keep (Rw.keep p2 hbY2) y2y hgu3 YL
        have x3 := grown_own x2y hgu3 NX3
        have kb3 := grown_blk kb2y hgu3 (own_ne_disk y2y kb2y)
        have wt3 := grown_blk ((hbY2.block _ (blk_lt wt2)).trans wt2) hgu3 N2
        have B3 := dk_grown y2y (B2.trans (hbY2.mono B2.size)) hgu3 (by have := B2.size; omega)
        have XL2 := own_lt x2
        have NY1 : (Value.slice BY (j + 1) cY).ownBlock ≠ some v3.heap.size := by
          rcases hatu3 with e | e
          · rw [e]; exact N2
          · rw [e]; intro e2; injection e2 with e2; omega
        have NY3 : ∀ b, (Value.slice BX (j + 1) cX).ownBlock = some b → (Value.slice BY (j + 1) cY).ownBlock ≠ some b := fun b hb => by
          have hl := XL2 b hb
          rcases hatu3 with e | e
          · rw [e]; intro e2; exact NX3 b e2 hb
          · rw [e]; intro e2; injection e2 with e2; omega
        have HA3 := Lib.hid (And.intro c3 (And.intro p3 (And.intro x3 (And.intro hou3 (And.intro kb3 (And.intro wt3 B3))))))
        have HB3 := Lib.hid (And.intro NX1 (And.intro NY1 (And.intro NY3 hwb)))
        clear hsz2 YL NX1 N2 NX3 hwb hbb c2 p2 x2 y2 kb2 wt2 B2 x2y y2y kb2y c3 p3 x3 kb3 wt3 B3 XL2 NY1 NY3 HA2 HB2 hou3 hgu3 hatu3 hY2 hbY2 hzY2 HSY2 H1Y2 HMY2 HOY2
        have HQE := Lib.hid (DK.queue_eq (ws_take_in hk1 zs (j + 1)))
        have hlen : ((wsOf k zs).take (j + 1)).length = j + 1 := by
          have := (List.getElem?_eq_some_iff.1 hwj).1
          rw [List.length_take]; omega
        have hm39 : m39 = if 4 < j + 1 then 4 else j + 1 := by
          have h := (show Wrs _ _ _ _ _ _ from HA3.out.2.1).len
          rw [HQE.out] at h
          simp only [List.length_drop, hlen] at h
          rw [← h]
          split <;> omega
        have hmn : (if 4 < (j : Int) + 1 then (4 : Int) else (j : Int) + 1) = (m39 : Int) := by rw [hm39]; split <;> split <;> omega
        have hne1 : ((m39 : Int) != (m39 : Int)) = false := by simp
        obtain rfl : k = n39 := by rw [← (show Cls _ _ _ _ _ _ from HA3.out.1).len, DK.queue_len]
        have HCE := Lib.hid (show (DK.queue k ((wsOf k zs).take (j + 1))).cells = DK.app (List.replicate k 0) ((wsOf k zs).take (j + 1 - 4)) by
          rw [HQE.out, hlen]
          show DK.app _ _ = _
          rw [List.take_take, Nat.min_eq_left (by omega)])
        clear hm39 HQE hlen hr hrr htm hkz hkn hck hou2 hou3
        by_cases h4 : 4 ≤ j
        · have g4 : decide (j ≥ 4) = true := decide_eq_true h4
          have g5 : decide ((j : Int) ≥ 4) = true := decide_eq_true (by omega)
          obtain ⟨mm, hmm⟩ : ∃ mm, mm + 4 = j := ⟨j - 4, by omega⟩
          have hsub : IntKind.i64.wrap ((j : Int) - 4) = (mm : Int) := by rw [IntWalk.i64_in _ (by omega)]; omega
          obtain ⟨⟨am, vm⟩, hwm⟩ : ∃ x, (wsOf k zs)[mm]? = some x := ⟨_, List.getElem?_eq_getElem (by have := (List.getElem?_eq_some_iff.1 hwj).1; omega)⟩
          obtain ⟨ham0, ham1⟩ := ws_in hk1 zs _ (List.mem_of_getElem? hwm)
          obtain ⟨ra, rfl⟩ := Int.eq_ofNat_of_zero_le ham0
          have hra : ra < k := by have : (ra : Int) < (k : Int) := ham1; omega
          have htk : ((wsOf k zs).take (j + 1))[mm]? = some ((ra : Int), vm) := by rw [List.getElem?_take, if_pos (by omega)]; exact hwm
          obtain ⟨gX, rfl, hgX, pX⟩ := own_int HA3.out.2.2.1 (i := mm) (x := (ra : Int)) (by unfold fsts; rw [List.getElem?_map, htk]; rfl) (by omega)
          obtain ⟨gY, rfl, hgY, pY⟩ := own_int HA3.out.2.2.2.1 (i := mm) (x := vm) (by unfold snds; rw [List.getElem?_map, htk]; rfl) (by omega)
          have HCL := Lib.hid (fun (V : World) (hV : Below u3.heap.size u3 V) => And.intro ((hV.cell (p := ⟨gX, mm, none⟩) hgX).trans pX) ((hV.cell (p := ⟨gY, mm, none⟩) hgY).trans pY))
          have HWN := Lib.hid (show DK.app (List.replicate k 0) ((wsOf k zs).take (j + 1 - 4)) = (DK.app (List.replicate k 0) ((wsOf k zs).take (j - 4))).set ra vm by
            rw [show j + 1 - 4 = mm + 1 by omega, show j - 4 = mm by omega, app_step hwm, app1_in (by rw [DK.app_len, List.length_replicate]; exact hra)])
          clear pX pY hgX hgY htk hwm ham0 ham1 hwj
          go_upto_region 14 with fail
          refine RgX.tail 12 (fun i => ( 52 + i)) (fun ix_ => match ix_ with | 0 => .v (.slice (some ⟨v3.heap.size, 0, none⟩) k k) | 1 => .v (.slice (some ⟨gX, 0, none⟩) (j + 1) cX) | 2 => .v (.int .i64 (j : Int)) | 3 => .v (.int .i64 (mm : Int)) | 4 => .v (.pointer (some ⟨gX, mm, none⟩)) | 5 => .v (.int .i64 (ra : Int)) | 6 => .v (.slice (some ⟨gY, 0, none⟩) (j + 1) cY) | 7 => .v (.int .i64 (j : Int)) | 8 => .v (.int .i64 (mm : Int)) | 9 => .v (.pointer (some ⟨gY, mm, none⟩)) | 10 => .v (.int .i64 vm) | 11 => .v (.pointer (some ⟨v3.heap.size, ra, none⟩)) | _ => .any) _ (by kernel_rfl) rfl rfl (by kernel_rfl) (by kernel_rfl) (fun i hi => by show ( 52 + i) < 79; (repeat' split) <;> omega) (fun i j hi hj => by show ( 52 + i) = ( 52 + j) → i = j; (repeat' split) <;> omega) ?step ?fin
          case step =>
            intro L_ A_ w3 ix op_ hi hI ho hdep
            have hcase : ix = 0 ∨ ix = 1 ∨ ix = 2 ∨ ix = 3 ∨ ix = 4 ∨ ix = 5 ∨ ix = 6 ∨ ix = 7 ∨ ix = 8 ∨ ix = 9 ∨ ix = 10 ∨ ix = 11 := by omega
            have hh := hI.held
            clear hi
            rcases hcase with rfl | rfl | rfl | rfl | rfl | rfl | rfl | rfl | rfl | rfl | rfl | rfl
            · simp only [List.getElem?_toArray, List.getElem?_cons_zero, Option.some.injEq] at ho
              subst ho
              refine ⟨rfl, ?_⟩
              have e7 : A_.tmps[7]?.getD undef = .slice (some ⟨v3.heap.size, 0, none⟩) k k := by rw [hI.low 7 (by decide)]; rfl
              clear hI hdep
              exact .run rfl (.slice (some ⟨v3.heap.size, 0, none⟩) k k) w3 (by simp [execOp, go_sem, Act.eval, e7]) (Below.refl _ _) rfl
            · simp only [List.getElem?_toArray, List.getElem?_cons_succ, List.getElem?_cons_zero, Option.some.injEq] at ho
              subst ho
              refine ⟨rfl, ?_⟩
              have e8 : A_.tmps[8]?.getD undef = .slice (some ⟨gX, 0, none⟩) (j + 1) cX := by rw [hI.low 8 (by decide)]; rfl
              clear hI hdep
              exact .run rfl (.slice (some ⟨gX, 0, none⟩) (j + 1) cX) w3 (by simp [execOp, go_sem, Act.eval, e8]) (Below.refl _ _) rfl
            · simp only [List.getElem?_toArray, List.getElem?_cons_succ, List.getElem?_cons_zero, Option.some.injEq] at ho
              subst ho
              refine ⟨rfl, ?_⟩
              have e10 : A_.tmps[10]?.getD undef = .int .i64 (j : Int) := by rw [hI.low 10 (by decide)]; rfl
              clear hI hdep
              exact .run rfl (.int .i64 (j : Int)) w3 (by simp [execOp, go_sem, Act.eval, e10]) (Below.refl _ _) rfl
            · simp only [List.getElem?_toArray, List.getElem?_cons_succ, List.getElem?_cons_zero, Option.some.injEq] at ho
              subst ho
              refine ⟨rfl, ?_⟩
              have e54 : A_.tmps[54]?.getD undef = .int .i64 (j : Int) := getD_of (hI.val_ (i := 2) rfl rfl (by decide) (hdep ⟨2, .data⟩ (by simp) rfl))
              clear hI hdep
              exact .run rfl (.int .i64 (mm : Int)) w3 (by simp [execOp, go_sem, Act.eval, e54, hsub]) (Below.refl _ _) rfl
            · simp only [List.getElem?_toArray, List.getElem?_cons_succ, List.getElem?_cons_zero, Option.some.injEq] at ho
              subst ho
              refine ⟨rfl, ?_⟩
              have e53 : A_.tmps[53]?.getD undef = .slice (some ⟨gX, 0, none⟩) (j + 1) cX := getD_of (hI.val_ (i := 1) rfl rfl (by decide) (hdep ⟨1, .data⟩ (by simp) rfl))
              have e55 : A_.tmps[55]?.getD undef = .int .i64 (mm : Int) := getD_of (hI.val_ (i := 3) rfl rfl (by decide) (hdep ⟨3, .data⟩ (by simp) rfl))
              clear hI hdep
              exact .run rfl (.pointer (some ⟨gX, mm, none⟩)) w3 (by simp [execOp, go_sem, Act.eval, e53, e55]; omega) (Below.refl _ _) rfl
            · simp only [List.getElem?_toArray, List.getElem?_cons_succ, List.getElem?_cons_zero, Option.some.injEq] at ho
              subst ho
              refine ⟨rfl, ?_⟩
              have e56 : A_.tmps[56]?.getD undef = .pointer (some ⟨gX, mm, none⟩) := getD_of (hI.val_ (i := 4) rfl rfl (by decide) (hdep ⟨4, .data⟩ (by simp) rfl))
              clear hI hdep
              have c0 := (HCL.out w3 hh).1
              exact .run rfl (.int .i64 (ra : Int)) w3 (by simp [execOp, go_sem, Act.eval, e56, c0]) (Below.refl _ _) rfl
            · simp only [List.getElem?_toArray, List.getElem?_cons_succ, List.getElem?_cons_zero, Option.some.injEq] at ho
              subst ho
              refine ⟨rfl, ?_⟩
              have e9 : A_.tmps[9]?.getD undef = .slice (some ⟨gY, 0, none⟩) (j + 1) cY := by rw [hI.low 9 (by decide)]; rfl
              clear hI hdep
              exact .run rfl (.slice (some ⟨gY, 0, none⟩) (j + 1) cY) w3 (by simp [execOp, go_sem, Act.eval, e9]) (Below.refl _ _) rfl
            · simp only [List.getElem?_toArray, List.getElem?_cons_succ, List.getElem?_cons_zero, Option.some.injEq] at ho
              subst ho
              refine ⟨rfl, ?_⟩
              have e10 : A_.tmps[10]?.getD undef = .int .i64 (j : Int) := by rw [hI.low 10 (by decide)]; rfl
              clear hI hdep
              exact .run rfl (.int .i64 (j : Int)) w3 (by simp [execOp, go_sem, Act.eval, e10]) (Below.refl _ _) rfl
            · simp only [List.getElem?_toArray, List.getElem?_cons_succ, List.getElem?_cons_zero, Option.some.injEq] at ho
              subst ho
              refine ⟨rfl, ?_⟩
              have e59 : A_.tmps[59]?.getD undef = .int .i64 (j : Int) := getD_of (hI.val_ (i := 7) rfl rfl (by decide) (hdep ⟨7, .data⟩ (by simp) rfl))
              clear hI hdep
              exact .run rfl (.int .i64 (mm : Int)) w3 (by simp [execOp, go_sem, Act.eval, e59, hsub]) (Below.refl _ _) rfl
            · simp only [List.getElem?_toArray, List.getElem?_cons_succ, List.getElem?_cons_zero, Option.some.injEq] at ho
              subst ho
              refine ⟨rfl, ?_⟩
              have e58 : A_.tmps[58]?.getD undef = .slice (some ⟨gY, 0, none⟩) (j + 1) cY := getD_of (hI.val_ (i := 6) rfl rfl (by decide) (hdep ⟨6, .data⟩ (by simp) rfl))
              have e60 : A_.tmps[60]?.getD undef = .int .i64 (mm : Int) := getD_of (hI.val_ (i := 8) rfl rfl (by decide) (hdep ⟨8, .data⟩ (by simp) rfl))
              clear hI hdep
              exact .run rfl (.pointer (some ⟨gY, mm, none⟩)) w3 (by simp [execOp, go_sem, Act.eval, e58, e60]; omega) (Below.refl _ _) rfl
            · simp only [List.getElem?_toArray, List.getElem?_cons_succ, List.getElem?_cons_zero, Option.some.injEq] at ho
              subst ho
              refine ⟨rfl, ?_⟩
              have e61 : A_.tmps[61]?.getD undef = .pointer (some ⟨gY, mm, none⟩) := getD_of (hI.val_ (i := 9) rfl rfl (by decide) (hdep ⟨9, .data⟩ (by simp) rfl))
              clear hI hdep
              have c0 := (HCL.out w3 hh).2
              exact .run rfl (.int .i64 vm) w3 (by simp [execOp, go_sem, Act.eval, e61, c0]) (Below.refl _ _) rfl
            · simp only [List.getElem?_toArray, List.getElem?_cons_succ, List.getElem?_cons_zero, Option.some.injEq] at ho
              subst ho
              refine ⟨rfl, ?_⟩
              have e52 : A_.tmps[52]?.getD undef = .slice (some ⟨v3.heap.size, 0, none⟩) k k := getD_of (hI.val_ (i := 0) rfl rfl (by decide) (hdep ⟨0, .data⟩ (by simp) rfl))
              have e57 : A_.tmps[57]?.getD undef = .int .i64 (ra : Int) := getD_of (hI.val_ (i := 5) rfl rfl (by decide) (hdep ⟨5, .data⟩ (by simp) rfl))
              clear hI hdep
              exact .run rfl (.pointer (some ⟨v3.heap.size, ra, none⟩)) w3 (by simp [execOp, go_sem, Act.eval, e52, e57]; omega) (Below.refl _ _) rfl
          case fin =>
          intro A_ w3 hs hd hlow hS hok
          obtain rfl : A_ = ⟨#[.int .i64 a0, .slice (some { block := b, off := off }) len1 cap1, undef, undef, u4, .int .i64 (k : Int), .pointer (some ⟨w2.heap.size, 0, none⟩), .slice (some ⟨v3.heap.size, 0, none⟩) k k, .slice (some ⟨gX, 0, none⟩) (j + 1) cX, .slice (some ⟨gY, 0, none⟩) (j + 1) cY, .int .i64 (j : Int), .int .i64 (N : Int), .int .i64 a0, .int .i64 (k0 : Int), .int .i64 (k : Int), .int .i64 (k : Int), .agg #[.slice A2 n2 c2, .slice P2 m2 q2], .int .i64 (k : Int), .slice (some ⟨v3.heap.size, 0, none⟩) k k, .int .i64 (j : Int), .slice (some { block := b, off := off }) len1 cap1, .int .i64 (len1 : Int), .bool true, .bool true, .int .i64 (j : Int), .bool true, .bool true, u27, u28, .slice (some { block := b, off := off }) len1 cap1, .int .i64 (j : Int), .pointer (some { block := b, off := off + j }), .int .i64 z, .int .i64 (N : Int), .agg #[.slice A n c, .slice P m q], .int .i64 (N : Int), .int .i64 (k : Int), .int .i64 (r : Int), .int .i64 (N : Int), .agg #[.slice A39 k c39, .slice P39 m39 q39], .slice Bx j cx, .int .i64 (N : Int), .int .i64 (k : Int), .int .i64 (r : Int), .slice (some ⟨u1.heap.size, 0, none⟩) 1 1, .slice (some ⟨gX, 0, none⟩) (j + 1) cX, .slice By j cy, .int .i64 (N : Int), .slice (some ⟨u2.heap.size, 0, none⟩) 1 1, .slice (some ⟨gY, 0, none⟩) (j + 1) cY, .int .i64 (j : Int), .bool true, .slice (some ⟨v3.heap.size, 0, none⟩) k k, .slice (some ⟨gX, 0, none⟩) (j + 1) cX, .int .i64 (j : Int), .int .i64 (mm : Int), .pointer (some ⟨gX, mm, none⟩), .int .i64 (ra : Int), .slice (some ⟨gY, 0, none⟩) (j + 1) cY, .int .i64 (j : Int), .int .i64 (mm : Int), .pointer (some ⟨gY, mm, none⟩), .int .i64 vm, .pointer (some ⟨v3.heap.size, ra, none⟩), u64, u65, u66, u67, u68, u69, u70, u71, u72, u73, u74, u75, u76, u77, undef], []⟩ := act_ext hd hs (fun j hj => match j, hj with | 0, _ => (hlow 0 (by decide)).trans rfl | 1, _ => (hlow 1 (by decide)).trans rfl | 2, _ => (hlow 2 (by decide)).trans rfl | 3, _ => (hlow 3 (by decide)).trans rfl | 4, _ => (hlow 4 (by decide)).trans rfl | 5, _ => (hlow 5 (by decide)).trans rfl | 6, _ => (hlow 6 (by decide)).trans rfl | 7, _ => (hlow 7 (by decide)).trans rfl | 8, _ => (hlow 8 (by decide)).trans rfl | 9, _ => (hlow 9 (by decide)).trans rfl | 10, _ => (hlow 10 (by decide)).trans rfl | 11, _ => (hlow 11 (by decide)).trans rfl | 12, _ => (hlow 12 (by decide)).trans rfl | 13, _ => (hlow 13 (by decide)).trans rfl | 14, _ => (hlow 14 (by decide)).trans rfl | 15, _ => (hlow 15 (by decide)).trans rfl | 16, _ => (hlow 16 (by decide)).trans rfl | 17, _ => (hlow 17 (by decide)).trans rfl | 18, _ => (hlow 18 (by decide)).trans rfl | 19, _ => (hlow 19 (by decide)).trans rfl | 20, _ => (hlow 20 (by decide)).trans rfl | 21, _ => (hlow 21 (by decide)).trans rfl | 22, _ => (hlow 22 (by decide)).trans rfl | 23, _ => (hlow 23 (by decide)).trans rfl | 24, _ => (hlow 24 (by decide)).trans rfl | 25, _ => (hlow 25 (by decide)).trans rfl | 26, _ => (hlow 26 (by decide)).trans rfl | 27, _ => (hlow 27 (by decide)).trans rfl | 28, _ => (hlow 28 (by decide)).trans rfl | 29, _ => (hlow 29 (by decide)).trans rfl | 30, _ => (hlow 30 (by decide)).trans rfl | 31, _ => (hlow 31 (by decide)).trans rfl | 32, _ => (hlow 32 (by decide)).trans rfl | 33, _ => (hlow 33 (by decide)).trans rfl | 34, _ => (hlow 34 (by decide)).trans rfl | 35, _ => (hlow 35 (by decide)).trans rfl | 36, _ => (hlow 36 (by decide)).trans rfl | 37, _ => (hlow 37 (by decide)).trans rfl | 38, _ => (hlow 38 (by decide)).trans rfl | 39, _ => (hlow 39 (by decide)).trans rfl | 40, _ => (hlow 40 (by decide)).trans rfl | 41, _ => (hlow 41 (by decide)).trans rfl | 42, _ => (hlow 42 (by decide)).trans rfl | 43, _ => (hlow 43 (by decide)).trans rfl | 44, _ => (hlow 44 (by decide)).trans rfl | 45, _ => (hlow 45 (by decide)).trans rfl | 46, _ => (hlow 46 (by decide)).trans rfl | 47, _ => (hlow 47 (by decide)).trans rfl | 48, _ => (hlow 48 (by decide)).trans rfl | 49, _ => (hlow 49 (by decide)).trans rfl | 50, _ => (hlow 50 (by decide)).trans rfl | 51, _ => (hlow 51 (by decide)).trans rfl | 52, _ => RgX.val_at (hok 0 52 _ (by decide) rfl rfl) | 53, _ => RgX.val_at (hok 1 53 _ (by decide) rfl rfl) | 54, _ => RgX.val_at (hok 2 54 _ (by decide) rfl rfl) | 55, _ => RgX.val_at (hok 3 55 _ (by decide) rfl rfl) | 56, _ => RgX.val_at (hok 4 56 _ (by decide) rfl rfl) | 57, _ => RgX.val_at (hok 5 57 _ (by decide) rfl rfl) | 58, _ => RgX.val_at (hok 6 58 _ (by decide) rfl rfl) | 59, _ => RgX.val_at (hok 7 59 _ (by decide) rfl rfl) | 60, _ => RgX.val_at (hok 8 60 _ (by decide) rfl rfl) | 61, _ => RgX.val_at (hok 9 61 _ (by decide) rfl rfl) | 62, _ => RgX.val_at (hok 10 62 _ (by decide) rfl rfl) | 63, _ => RgX.val_at (hok 11 63 _ (by decide) rfl rfl) | 64, _ => (hlow 64 (by decide)).trans rfl | 65, _ => (hlow 65 (by decide)).trans rfl | 66, _ => (hlow 66 (by decide)).trans rfl | 67, _ => (hlow 67 (by decide)).trans rfl | 68, _ => (hlow 68 (by decide)).trans rfl | 69, _ => (hlow 69 (by decide)).trans rfl | 70, _ => (hlow 70 (by decide)).trans rfl | 71, _ => (hlow 71 (by decide)).trans rfl | 72, _ => (hlow 72 (by decide)).trans rfl | 73, _ => (hlow 73 (by decide)).trans rfl | 74, _ => (hlow 74 (by decide)).trans rfl | 75, _ => (hlow 75 (by decide)).trans rfl | 76, _ => (hlow 76 (by decide)).trans rfl | 77, _ => (hlow 77 (by decide)).trans rfl | 78, _ => (hlow 78 (by decide)).trans rfl | n + 79, h => absurd h (by show ¬ n + 79 < 79; omega))
          clear hs hd hlow hok 
          have wt4 := (hS.block _ (blk_lt HA3.out.2.2.2.2.2.1)).trans HA3.out.2.2.2.2.2.1
          have hsz : ra + (Value.int .i64 vm).cells.size ≤ (DK.intsC (DK.app (List.replicate k 0) ((wsOf k zs).take (j - 4)))).toArray.size := by
            show ra + 1 ≤ _
            rw [List.size_toArray, DK.intsC_len, DK.app_len, List.length_replicate]
            omega
          refine RgX.wpList_store_seg rfl 3 _ _ rfl v3.heap.size ra (.int .i64 vm) rfl rfl 3 _ wt4 dk_sz_int hsz (by simp [Value.cells, Value.oneCell']) _ rfl ?_
          intro u4 k4 ho4 hz4 hb4
          rw [DK.intsC_set _ ra vm (by rw [DK.app_len, List.length_replicate]; exact hra), ← HWN.out] at k4
          obtain ⟨NX1, NY1, NY3, hwb⟩ := HB3.out
          obtain ⟨c3, p3, x3, y3, kb3, wt3, B3⟩ := HA3.out
          have hot : ∀ b, b ≠ v3.heap.size → b < u3.heap.size → u4.heap[b]? = u3.heap[b]? := fun b hb hl => (ho4 b hb).trans (hS.block b hl)
          have HA4 := Lib.hid (And.intro (show Cls vo.heap.size u4 A39 k c39 (DK.queue k ((wsOf k zs).take (j + 1))).cells from Rw.keepTo c3 (fun g _ hc hg => hot g (by omega) (blk_lt hc)) (Nat.le_refl _)) (And.intro (show Wrs vo.heap.size u4 P39 m39 q39 (DK.queue k ((wsOf k zs).take (j + 1))).pend from Rw.keepTo p3 (fun g _ hc hg => hot g (by omega) (blk_lt hc)) (Nat.le_refl _)) (And.intro (own_other' (dk_own_keep x3 hS) ho4 NX1) (And.intro (own_other' (dk_own_keep y3 hS) ho4 NY1) (And.intro ((hot _ (by omega) (blk_lt kb3)).trans kb3) (And.intro k4 ((B3.trans (hS.mono B3.size)).trans (hb4.mono (by omega)))))))))
          clear wt4 hsz k4 ho4 hz4 hb4 NX1 NY1 NY3 hwb c3 p3 x3 y3 kb3 wt3 B3 hot hS HCL HWN hsub HA3 hmm h4
          have HCA := Lib.hid (sameInts_eq (b := true) u4 HA4.out.1 (Cls.of_block (lo := 0) (n := k) HA4.out.2.2.2.2.2.1 (Nat.zero_le _) (by rw [DK.app_len, List.length_replicate]) (by omega)) (by omega) (by rw [HCE.out]; simp))
          obtain ⟨d0, d1⟩ := dk_two HA4.out.2.2.2.2.1
          go_wp2_with (go_at_call 18; refine HCA.out.mono ?_; rintro e w9 ⟨rfl, hb9⟩)
          go_roundw
          case rel =>
            obtain ⟨c4, p4, x4, y4, kb4, wt4, B4⟩ := HA4.out
            obtain ⟨NX1, NY1, NY3, _⟩ := HB3.out
            exact ⟨j + 1, some ⟨gX, 0, none⟩, some ⟨gY, 0, none⟩, A39, k, c39, P39, m39, q39, cX, cY, by omega, by omega, by go_num, rfl, rfl, dk_own_keep x4 hb9, dk_own_keep y4 hb9, (hb9.block _ (blk_lt kb4)).trans kb4, ⟨_, _, _, _, _, _, rfl, Rw.more (Rw.keep c4 hb9) (Nat.zero_le _), Rw.more (Rw.keep p4 hb9) (Nat.zero_le _)⟩, (hb9.block _ (blk_lt wt4)).trans wt4, B4.trans (hb9.mono B4.size), ⟨NX1, NY1, NY3⟩⟩
          case measure => simp [intOf]; omega
        · have g4 : decide (j ≥ 4) = false := decide_eq_false h4
          have g5 : decide ((j : Int) ≥ 4) = false := decide_eq_false (by omega)
          have HWN := Lib.hid (show DK.app (List.replicate k 0) ((wsOf k zs).take (j + 1 - 4)) = DK.app (List.replicate k 0) ((wsOf k zs).take (j - 4)) by rw [show j + 1 - 4 = 0 by omega, show j - 4 = 0 by omega])
          obtain ⟨c3, p3, x3, y3, kb3, wt3, B3⟩ := HA3.out
          have HA4 := Lib.hid (And.intro c3 (And.intro p3 (And.intro x3 (And.intro y3 (And.intro kb3 (And.intro (show u3.heap[v3.heap.size]? = some (.cells (DK.intsC (DK.app (List.replicate k 0) ((wsOf k zs).take (j + 1 - 4)))).toArray 3 (0, 0)) by rw [HWN.out]; exact wt3) B3))))))
          clear c3 p3 x3 y3 kb3 wt3 B3 HWN HA3 hwj h4
          have HCA := Lib.hid (sameInts_eq (b := true) u3 HA4.out.1 (Cls.of_block (lo := 0) (n := k) HA4.out.2.2.2.2.2.1 (Nat.zero_le _) (by rw [DK.app_len, List.length_replicate]) (by omega)) (by omega) (by rw [HCE.out]; simp))
          obtain ⟨d0, d1⟩ := dk_two HA4.out.2.2.2.2.1
          go_wp2_with (go_at_call 18; refine HCA.out.mono ?_; rintro e w9 ⟨rfl, hb9⟩)
          go_roundw
          case rel =>
            obtain ⟨c4, p4, x4, y4, kb4, wt4, B4⟩ := HA4.out
            obtain ⟨NX1, NY1, NY3, _⟩ := HB3.out
            exact ⟨j + 1, BX, BY, A39, k, c39, P39, m39, q39, cX, cY, by omega, by omega, by go_num, rfl, rfl, dk_own_keep x4 hb9, dk_own_keep y4 hb9, (hb9.block _ (blk_lt kb4)).trans kb4, ⟨_, _, _, _, _, _, rfl, Rw.more (Rw.keep c4 hb9) (Nat.zero_le _), Rw.more (Rw.keep p4 hb9) (Nat.zero_le _)⟩, (hb9.block _ (blk_lt wt4)).trans wt4, B4.trans (hb9.mono B4.size), ⟨NX1, NY1, NY3⟩⟩
          case measure => simp [intOf]; omega
      · have dj2 : decide (j < 20) = false := decide_eq_false hin2
        go_wp2_with (go_at_call 21; refine (lives_any _).mono ?_; rintro e w9 ⟨rfl, hb9⟩)
        go_ret
        exact ⟨rfl, HB.out.trans (hb9.mono HB.out.size)⟩
    · have dj : decide (j < len1) = false := decide_eq_false hin
      go_wp2_with (go_at_call 21; refine (lives_any _).mono ?_; rintro e w9 ⟨rfl, hb9⟩)
      go_ret
      exact ⟨rfl, HB.out.trans (hb9.mono HB.out.size)⟩
end Go.Proofs.Ytgdefhlcgmibcaa.LawDiskQueue
