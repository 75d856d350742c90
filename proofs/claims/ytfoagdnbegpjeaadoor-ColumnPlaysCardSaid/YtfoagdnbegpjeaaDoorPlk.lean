/-
  What ColumnPlays' walk keeps: the two columns, the call's block, the pushed list.
-/
import Derived.Test.YtfoagdnbegpjeaaDoorTw
import Derived.Test.YtfoagdnbegpjeaaDoorRC
import Derived.Test.YtfoagdnbegpjeaaDoorAl5
import Derived.Test.YtfoagdnbegpjeaaDoorOpc
import Derived.Test.YtfoagdnbegpjeaaDoorEmp
namespace Go.Proofs.YtfoagdnbegpjeaaDoor
set_option linter.unusedSimpArgs false
set_option linter.unusedVariables false
open Go.RowKit Go.Sort Go.Lib Go.Shelf

section
variable {w0 W W' : World} {X : Nat → Prop} {pa pb gi ci bo : Nat} {L L1 L2 l : List Int} {m kd i x : Int} {vl : Value}

/-- The column and the reference's, side by side. -/
abbrev Tw (w0 : World) (X : Nat → Prop) (W : World) (pa : Nat) (L1 : List Int) (pb : Nat) (L2 : List Int) (m : Int) : Prop := TwoC encI 3 1 66 29 w0.heap.size X W pa L1 m pb L2 m

/-- The block of a call, and what was there ahead of all. -/
def OpR (w0 : World) (bo : Nat) (kd i x : Int) (vl : Value) (W : World) : Prop :=
  W.heap[bo]? = some (.cells #[.int .i64 kd, .int .i64 i, .int .i64 x, vl] 32 (0, 0)) ∧ RowKit.Below w0.heap.size w0 W
abbrev OpS (w0 : World) (bo : Nat) (kd i x : Int) (vl : Value) (W : World) : Prop :=
  W.cell? ⟨bo, 0, none⟩ = some (.int .i64 kd) ∧ W.cell? ⟨bo, 1, none⟩ = some (.int .i64 i) ∧ W.cell? ⟨bo, 2, none⟩ = some (.int .i64 x) ∧ W.cell? ⟨bo, 3, none⟩ = some vl ∧ OpR w0 bo kd i x vl W
theorem OpS.mk (h : W.heap[bo]? = some (.cells #[.int .i64 kd, .int .i64 i, .int .i64 x, vl] 32 (0, 0))) (hb : RowKit.Below w0.heap.size w0 W) : OpS w0 bo kd i x vl W :=
  ⟨by simp [World.cell?, h], by simp [World.cell?, h], by simp [World.cell?, h], by simp [World.cell?, h], h, hb⟩
theorem OpS.below (h : OpS w0 bo kd i x vl W) (k : RowKit.Below W.heap.size W W') : OpS w0 bo kd i x vl W' :=
  OpS.mk (blk_below h.2.2.2.2.1 k) (h.2.2.2.2.2.trans (k.mono h.2.2.2.2.2.size))
theorem OpS.lo (h : OpS w0 bo kd i x vl W) : RowKit.Below w0.heap.size w0 W := h.2.2.2.2.2
theorem OpS.off (h : OpS w0 bo kd i x vl W) (t : Tch (Off w0.heap.size X) W W') (hX : X bo) : OpS w0 bo kd i x vl W' :=
  OpS.mk ((t.block bo (Array.getElem?_eq_some_iff.1 h.2.2.2.2.1).1 (fun e => e.2 hX)).trans h.2.2.2.2.1) (h.lo.trans (Off.below t h.lo.size))

theorem OpS.set (h : OpS w0 bo kd i x vl W) {p : Addr} {c : Array Value} {t : Nat} {f : Nat × Nat} (hb : W.heap[p.block]? = some (.cells c t f)) (ht : 32 ≠ t) (hlo : w0.heap.size ≤ p.block) (u : Value) : OpS w0 bo kd i x vl (W.setCell p u) :=
  OpS.mk (blk_far h.2.2.2.2.1 (type_apart h.2.2.2.2.1 hb ht) u) (Bs h.lo hlo u)
theorem numG_range {A : Nat → Addr} {w : World} (h : Errs w A) : Calls Tryd.prog 11 #[.iface 88 (.pointer (some (A 0)))] w fun e w' => e = .returned (.int .i64 1) ∧ Gr w w' := num_anyG h 0 (by omega)
/-- .. with the list that is pushed, and its marks. -/
def TrP (w0 : World) (X : Nat → Prop) (W : World) (pa : Nat) (L1 : List Int) (pb : Nat) (L2 : List Int) (m : Int) (gi ci : Nat) (l : List Int) : Prop :=
  Tw w0 X W pa L1 pb L2 m ∧ W.ownsRow w0.heap.size 3 1 (.slice (some ⟨gi, 0, none⟩) (l.length + 4) ci) (l.length + 4) (flat encI (l ++ marks)) ∧ X gi ∧ RowKit.Below w0.heap.size w0 W
theorem TrP.below (h : TrP w0 X W pa L1 pb L2 m gi ci l) (k : RowKit.Below W.heap.size W W') : TrP w0 X W' pa L1 pb L2 m gi ci l :=
  ⟨h.1.below k, row_below h.2.1 k, h.2.2.1, h.2.2.2.trans (k.mono h.2.2.2.size)⟩
theorem TrP.off (h : TrP w0 X W pa L1 pb L2 m gi ci l) (h1 : Tw w0 X W' pa L1 pb L2 m) (t : Tch (Off w0.heap.size X) W W') : TrP w0 X W' pa L1 pb L2 m gi ci l :=
  ⟨h1, row_keep h.2.1 (fun g hg => by
    simp only [Value.ownBlock, Option.some.injEq] at hg
    subst hg
    exact t.block gi (row_lt h.2.1 rfl) (fun e => e.2 h.2.2.1)), h.2.2.1, h.2.2.2.trans (Off.below t h.2.2.2.size)⟩
theorem TrP.sl (h : TrP w0 X W pa L1 pb L2 m gi ci l) : Sl encI W (.slice (some ⟨gi, 0, none⟩) l.length ci) l := by
  have := row_sl lenI (frontI h.2.1 (by simp [marks]) l.length (by omega)) (by simp)
  rwa [List.take_left] at this
theorem TrP.front (h : TrP w0 X W pa L1 pb L2 m gi ci l) : W.ownsRow w0.heap.size 3 1 (.slice (some ⟨gi, 0, none⟩) l.length ci) l.length (flat encI l) := by
  have := frontI h.2.1 (by simp [marks]) l.length (by omega)
  rwa [List.take_left] at this
theorem TrP.row (h : TrP w0 X W pa L1 pb L2 m gi ci l) {L1' L2' : List Int} (h1 : Tw w0 X W' pa L1' pb L2' m) (t : Tch (Off w0.heap.size X) W W') : TrP w0 X W' pa L1' pb L2' m gi ci l :=
  ⟨h1, row_keep h.2.1 (fun g hg => by
    simp only [Value.ownBlock, Option.some.injEq] at hg
    subst hg
    exact t.block gi (row_lt h.2.1 rfl) (fun e => e.2 h.2.2.1)), h.2.2.1, h.2.2.2.trans (Off.below t h.2.2.2.size)⟩

theorem TrP.push (hm : 0 ≤ m) (hm2 : m ≤ 9223372036854775807) (hn : ¬ m - L.length < l.length) (hlen : L.length + l.length ≤ 1000000) (h : TrP w0 X W pa L pb L2 m gi ci l) :
    Calls Tryd.prog 12 #[.pointer (some ⟨pa, 0, none⟩), .slice (some ⟨gi, 0, none⟩) l.length ci] W fun e w' => e = .returned .nilIface ∧ TrP w0 X w' pa (L ++ l) pb L2 m gi ci l ∧ Tch (Off w0.heap.size X) W w' :=
  (h.1.ask1 (fun M k => pushI_yes k l _ h.sl hm hm2 hn hlen)).mono fun e w' ⟨a, b, c⟩ => ⟨a, h.row b c, c⟩
theorem TrP.push_no (hm : 0 ≤ m) (hm2 : m ≤ 9223372036854775807) (hn : m - L.length < l.length) (A : Nat → Addr) (hE : Errs w0 A) (h : TrP w0 X W pa L pb L2 m gi ci l) :
    Calls Tryd.prog 12 #[.pointer (some ⟨pa, 0, none⟩), .slice (some ⟨gi, 0, none⟩) l.length ci] W fun e w' => e = .returned (.iface 88 (.pointer (some (A 1)))) ∧ TrP w0 X w' pa L pb L2 m gi ci l ∧ Tch (Off w0.heap.size X) W w' :=
  (pushI_no h.1.first.choose_spec l _ h.sl hm hm2 hn _ _ (errFull_at (hE.below h.2.2.2))).mono fun e w' ⟨a, b⟩ => ⟨a, h.below b, Tch.of b⟩
theorem TrP.rpush (hm : 0 ≤ m) (hm2 : m ≤ 9223372036854775807) (hn : ¬ m - L.length < l.length) (hlen : L.length + l.length ≤ 1000000) (hv : Sl encI w0 vl l) (h : TrP w0 X W pa L1 pb L m gi ci l) :
    Calls Tryd.prog 13 #[.pointer (some ⟨pb, 0, none⟩), vl] W fun e w' => e = .returned (.int .i64 0) ∧ TrP w0 X w' pa L1 pb (L ++ l) m gi ci l ∧ Tch (Off w0.heap.size X) W w' :=
  (h.1.ask2 (fun M k => rpush_yes k l _ (hv.below h.2.2.2) hm hm2 hn hlen)).mono fun e w' ⟨a, b, c⟩ => ⟨a, h.row b c, c⟩
theorem TrP.rpush_no (hm : 0 ≤ m) (hm2 : m ≤ 9223372036854775807) (hn : m - L.length < l.length) (hv : Sl encI w0 vl l) (h : TrP w0 X W pa L1 pb L m gi ci l) :
    Calls Tryd.prog 13 #[.pointer (some ⟨pb, 0, none⟩), vl] W fun e w' => e = .returned (.int .i64 2) ∧ TrP w0 X w' pa L1 pb L m gi ci l ∧ Tch (Off w0.heap.size X) W w' :=
  (_root_.Go.Proofs.YtfoagdnbegpjeaaDoor.rpush_no h.1.second.choose_spec l _ (hv.below h.2.2.2) hm hm2 hn).mono fun e w' ⟨a, b⟩ => ⟨a, h.below b, Tch.of b⟩
theorem TrP.kept (hlen : l.length ≤ 100000) (hv : Sl encI w0 vl l) (h : TrP w0 X W pa L1 pb L2 m gi ci l) :
    Calls Tryd.prog 14 #[.slice (some ⟨gi, 0, none⟩) l.length ci, vl] W fun e w' => e = .returned (.bool true) ∧ TrP w0 X w' pa L1 pb L2 m gi ci l ∧ RowKit.Below W.heap.size W w' :=
  (keptInts_call l _ gi ci vl W h.2.1 (hv.below h.2.2.2) hlen).mono fun e w' ⟨a, b⟩ => ⟨a, h.below b.below, b.below⟩

/-- The second column, changed in place. -/
theorem TwoC.step2 {α : Type} {enc : α → List Value} {et k T1 T2 base : Nat} {L1 L2 : List α} {m1 m2 : Int} (h : TwoC enc et k T1 T2 base X W pa L1 m1 pb L2 m2) : ∃ M, ColAt enc et k T2 W M pb L2 m2 ∧ ∀ (w' : World) (L2' : List α), ColAt enc et k T2 w' (New M W w') pb L2' m2 → Tch M W w' →
    TwoC enc et k T1 T2 base X w' pa L1 m1 pb L2' m2 ∧ Tch (Off base X) W w' := by
  have hlo := h.lo
  obtain ⟨M1, M2, h1, h2, h3, h4, h5⟩ := h
  refine ⟨M2, h2, fun w' L2' hp ht => ⟨⟨M1, _, h1.kept ht (fun b e q => (h3 b e).2.2.1 q), hp, fun b e => ⟨(h3 b e).1, Nat.lt_of_lt_of_le (h3 b e).2.1 ht.size, fun q => ?_, (h3 b e).2.2.2⟩, fun b e => ?_, fun b e => Nat.lt_of_lt_of_le (h5 b e) ht.size⟩, ht.mono (fun b e => ⟨(h4 b e).1, (h4 b e).2.2⟩)⟩⟩
  · rcases q with q | q
    · exact (h3 b e).2.2.1 q
    · have := (h3 b e).2.1; omega
  · rcases e with e | e
    · exact ⟨(h4 b e).1, Nat.lt_of_lt_of_le (h4 b e).2.1 ht.size, (h4 b e).2.2⟩
    · exact ⟨by omega, e.2, fun q => by have := h5 b q; omega⟩

theorem TwoC.lo2 {α : Type} {enc : α → List Value} {et k T1 T2 base : Nat} {L1 L2 : List α} {m1 m2 : Int} (h : TwoC enc et k T1 T2 base X W pa L1 m1 pb L2 m2) : base ≤ pb := by
  obtain ⟨M1, M2, h1, h2, h3, h4, h5⟩ := h
  exact (h4 _ h2.choose_spec.2.1).1
/-! ### The round's end. -/
def TailR (w0 : World) (pa pb : Nat) (L : List Int) (m : Int) (q : Option Addr) (j : Nat) (W : World) : Prop := Tw w0 NoX W pa L pb L m ∧ Sl encI W (.slice q L.length j) L ∧ RowKit.Below w0.heap.size w0 W
abbrev TailS (w0 : World) (pa pb : Nat) (L : List Int) (m : Int) (q : Option Addr) (j : Nat) (W : World) : Prop := W.cell? ⟨pb, 0, none⟩ = some (.slice q L.length j) ∧ TailR w0 pa pb L m q j W
theorem TailS.made (h : Tw w0 NoX W pa L pb L m) (hb : RowKit.Below w0.heap.size w0 W) : ∃ q j, TailS w0 pa pb L m q j W := by
  obtain ⟨M, h2⟩ := h.second
  obtain ⟨q, j, hi, _, _, _⟩ := h2.open
  exact ⟨q, j, hi.cells.1, h, hi.2.2.sl lenI, hb⟩
theorem TailS.below {q : Option Addr} {j : Nat} (h : TailS w0 pa pb L m q j W) (k : RowKit.Below W.heap.size W W') : TailS w0 pa pb L m q j W' :=
  ⟨Bc k (cell_lt h.1) h.1, h.2.1.below k, h.2.2.1.below k, h.2.2.2.trans (k.mono h.2.2.2.size)⟩
theorem TailS.len {q : Option Addr} {j : Nat} (h : TailS w0 pa pb L m q j W) : Calls Tryd.prog 21 #[.pointer (some ⟨pa, 0, none⟩)] W fun e w' => e = .returned (.int .i64 L.length) ∧ W = w' := lenI_call h.2.1.first.choose_spec
theorem TailS.all {q : Option Addr} {j : Nat} (h : TailS w0 pa pb L m q j W) (hl : L.length ≤ 100000) : Calls Tryd.prog 23 #[.pointer (some ⟨pa, 0, none⟩)] W fun e w' => ∃ p c, e = .returned (.slice p L.length c) ∧ Sl encI w' (.slice p L.length c) L ∧ RowKit.Below W.heap.size W w' :=
  (allI_call h.2.1.first.choose_spec hl).mono fun e w' ⟨v, a, b, c⟩ => by
    obtain ⟨p, cp, rfl, _, _, _⟩ := row_val b
    exact ⟨p, cp, a, row_sl lenI b rfl, c⟩
theorem TailS.same {q : Option Addr} {j : Nat} {v : Value} (hv : Sl encI W v L) (h : TailS w0 pa pb L m q j W) : Calls Tryd.prog 22 #[v, .slice q L.length j] W fun e w' => e = .returned (.bool true) ∧ RowKit.Below W.heap.size W w' :=
  (sameInts_call L L v _ W hv h.2.2.1).mono fun e w' ⟨a, b⟩ => ⟨by rw [a, decide_eq_true rfl], b.below⟩
end
end Go.Proofs.YtfoagdnbegpjeaaDoor
