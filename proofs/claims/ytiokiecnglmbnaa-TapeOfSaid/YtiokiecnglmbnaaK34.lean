/-
  Contracts of the tape's functions in the form that a region wants. Conditions: those of the contracts that they come from.
-/
import Derived.Test.YtiokiecnglmbnaaK30
import Derived.Test.YtiokiecnglmbnaaK32
import Derived.Test.YtiokiecnglmbnaaK25
import Derived.Test.YtiokiecnglmbnaaK5

namespace Go.Proofs.Ytiokiecnglmbnaa
open Go Go.RowKit Go.Proofs
/-- Bytes in a row. -/
def Byt (w : World) (B : Option Addr) (n c : Nat) (zs : List Int) : Prop := zs.length = n ∧ Lst 5 .u8 w.heap.size w B n c zs
theorem Byt.keep {w w' : World} {B : Option Addr} {n c : Nat} {zs : List Int} (h : Byt w B n c zs) (hb : Below w.heap.size w w') : Byt w' B n c zs := ⟨h.1, (h.2.below hb).more hb.size⟩
namespace RgX
def Sp.byt (zs : List Int) : Sp := ⟨fun w x => ∃ B n c, x = .slice B n c ∧ Byt w B n c zs, fun ⟨B, n, c, e, h⟩ hb => ⟨B, n, c, e, h.keep hb⟩⟩
end RgX
theorem decode_good {B0 : Nat} {AD : Option Addr} {nD cD : Nat} {zs : List Int} {es : List NM.Ev} {nl : List TP.An} (w : World) (hz : Lst 5 .u8 B0 w AD nD cD zs) (hn : nD ≤ 1000000) (h8 : ∀ x ∈ zs, B8 x) (hd : decP zs = ((es, nl), 0)) :
    Calls Try.prog 37 #[.slice AD nD cD] w fun e w' => (∃ E ne ce A na ca, e = .returned (.tuple #[.agg #[.slice E ne ce, .slice A na ca], .int .i64 0]) ∧ TapeIs w.heap.size w' E ne ce A na ca es nl) ∧ Below w.heap.size w w' := by
  have := decodeP_any w hz hn h8
  rw [hd] at this
  exact this
theorem same_good {E1 A1 E2 A2 : Option Addr} {n1 c1 a1 d1 n2 c2 a2 d2 : Nat} {es : List NM.Ev} {l : List TP.An} (w : World) (h1 : TIn w E1 n1 c1 A1 a1 es l) (h2 : TIn w E2 n2 c2 A2 a2 es l) :
    Calls Try.prog 16 #[.agg #[.slice E1 n1 c1, .slice A1 a1 d1], .agg #[.slice E2 n2 c2, .slice A2 a2 d2]] w fun e w' => e = .returned (.bool true) ∧ Below w.heap.size w w' := by
  have := refSame_any (c1 := c1) (d1 := d1) (c2 := c2) (d2 := d2) w h1.ev h1.an h2.ev h2.an h1.be h1.ba
  rw [decide_eq_true (⟨rfl, rfl⟩ : es = es ∧ l = l)] at this
  exact this
theorem equal_good {E1 A1 E2 A2 : Option Addr} {n1 c1 a1 d1 n2 c2 a2 d2 : Nat} {es : List NM.Ev} {l nl : List TP.An} (w : World) (h1 : TIn w E1 n1 c1 A1 a1 es l) (h2 : TIn w E2 n2 c2 A2 a2 es nl) (hl : TP.normA l = nl) (hn : TP.normA nl = nl) :
    Calls Try.prog 19 #[.agg #[.slice E1 n1 c1, .slice A1 a1 d1], .agg #[.slice E2 n2 c2, .slice A2 a2 d2]] w fun e w' => e = .returned (.bool true) ∧ Below w.heap.size w w' := by
  have := equalP_any (d1 := d1) (d2 := d2) w h1 h2
  rw [decide_eq_true (⟨rfl, by rw [hl, hn]⟩ : es = es ∧ TP.normA l = TP.normA nl)] at this
  exact this
theorem normal_good {E A : Option Addr} {ne ce na ca lo : Nat} {es : List NM.Ev} {l nl : List TP.An} (w : World) (h : TIn w E ne ce A na es l) (hl : TP.normA l = nl) (hlo : lo ≤ w.heap.size) :
    Calls Try.prog 17 #[.agg #[.slice E ne ce, .slice A na ca]] w fun e w' => (∃ v, e = .returned v ∧ (RgX.Sp.tape lo es nl es.length nl.length).p w' v) ∧ Below w.heap.size w w' := by
  have := normal_any (ce := ce) (ca := ca) w h
  rw [hl] at this
  exact RgX.tape_calls_lo hlo rfl rfl this
theorem encode_good {E A : Option Addr} {ne ce na ca : Nat} {es : List NM.Ev} {l nl : List TP.An} (w : World) (h : TIn w E ne ce A na es l) (h1 : es.length ≤ 10) (h2 : l.length ≤ 10) (he : ∀ e ∈ es, ∀ x ∈ NM.evL e, I64 x) (ha : ∀ a ∈ l, ∀ x ∈ anL a, I64 x) (hl : TP.normA l = nl) :
    Calls Try.prog 33 #[.agg #[.slice E ne ce, .slice A na ca]] w fun e w' => (∃ v, e = .returned v ∧ (RgX.Sp.byt (encT es nl)).p w' v) ∧ Below w.heap.size w w' := by
  have e1 := h.ev.1
  have e2 := h.an.1
  have := encodeP_any (ce := ce) (ca := ca) w h (by omega) (by omega) he ha
  rw [hl] at this
  exact this.mono fun _ _ ⟨B_, m_, d_, h1_, h2_, h3_, _, h4_⟩ => ⟨⟨_, h1_, B_, m_, d_, rfl, h2_, h3_⟩, h4_⟩
theorem bytes_good {B1 B2 : Option Addr} {n1 c1 n2 c2 : Nat} {zs : List Int} (w : World) (h1 : Byt w B1 n1 c1 zs) (h2 : Byt w B2 n2 c2 zs) (hl : zs.length ≤ 2000) :
    Calls Try.prog 32 #[.slice B1 n1 c1, .slice B2 n2 c2] w fun e w' => e = .returned (.bool true) ∧ Below w.heap.size w w' := by
  have := sameBytes_any B1 B2 n1 n2 c1 c2 zs zs w h1.2.ints h2.2.ints (by have := h1.1; omega)
  rw [decide_eq_true (rfl : zs = zs)] at this
  exact this
theorem cmp_good (a b : NM.Qu) (w : World) : Calls Try.prog 39 #[quV a, quV b] w fun e w' => e = .returned (.int .i64 (NM.lexL (NM.quL a) (NM.quL b))) ∧ Below w.heap.size w w' :=
  (cmpQueD_any a b w).mono fun _ _ h => ⟨h.1, h.2.1⟩
end Go.Proofs.Ytiokiecnglmbnaa
