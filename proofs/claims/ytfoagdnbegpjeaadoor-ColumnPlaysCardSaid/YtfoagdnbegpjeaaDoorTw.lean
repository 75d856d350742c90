/-
  Two columns of the call's own, side by side, off the blocks X.
-/
import Derived.Test.YtfoagdnbegpjeaaDoorCm
namespace Go.Proofs.YtfoagdnbegpjeaaDoor
set_option linter.unusedSimpArgs false
set_option linter.unusedVariables false
open Go.RowKit Go.Sort Go.Lib Go.Shelf

section
variable {α : Type} {enc : α → List Value} {et k T1 T2 base pa pb : Nat} {L1 L2 L1' L2' : List α} {m1 m2 : Int} {X Y : Nat → Prop} {w w' w0 : World}

/-- A column at pa (of type T1), one at pb (of type T2), no block in both, all from base on, none in X. -/
def TwoC (enc : α → List Value) (et k T1 T2 base : Nat) (X : Nat → Prop) (w : World) (pa : Nat) (L1 : List α) (m1 : Int) (pb : Nat) (L2 : List α) (m2 : Int) : Prop :=
  ∃ M1 M2 : Nat → Prop, ColAt enc et k T1 w M1 pa L1 m1 ∧ ColAt enc et k T2 w M2 pb L2 m2 ∧ (∀ b, M1 b → base ≤ b ∧ b < w.heap.size ∧ ¬ M2 b ∧ ¬ X b) ∧ (∀ b, M2 b → base ≤ b ∧ b < w.heap.size ∧ ¬ X b) ∧ ∀ b, X b → b < w.heap.size
abbrev NoX : Nat → Prop := fun _ => False
theorem TwoC.first (h : TwoC enc et k T1 T2 base X w pa L1 m1 pb L2 m2) : ∃ M, ColAt enc et k T1 w M pa L1 m1 := ⟨_, h.choose_spec.choose_spec.1⟩
theorem TwoC.second (h : TwoC enc et k T1 T2 base X w pa L1 m1 pb L2 m2) : ∃ M, ColAt enc et k T2 w M pb L2 m2 := ⟨_, h.choose_spec.choose_spec.2.1⟩
theorem TwoC.lo (h : TwoC enc et k T1 T2 base X w pa L1 m1 pb L2 m2) : base ≤ w.heap.size := by
  obtain ⟨M1, M2, h1, h2, h3, h4, _⟩ := h
  have := h3 _ h1.choose_spec.2.1
  omega
theorem TwoC.below (h : TwoC enc et k T1 T2 base X w pa L1 m1 pb L2 m2) (t : RowKit.Below w.heap.size w w') : TwoC enc et k T1 T2 base X w' pa L1 m1 pb L2 m2 := by
  obtain ⟨M1, M2, h1, h2, h3, h4, h5⟩ := h
  exact ⟨M1, M2, h1.below t, h2.below t, fun b e => ⟨(h3 b e).1, Nat.lt_of_lt_of_le (h3 b e).2.1 t.size, (h3 b e).2.2⟩, fun b e => ⟨(h4 b e).1, Nat.lt_of_lt_of_le (h4 b e).2.1 t.size, (h4 b e).2.2⟩, fun b e => Nat.lt_of_lt_of_le (h5 b e) t.size⟩
/-- What is new since is none of theirs. -/
theorem TwoC.off (h : TwoC enc et k T1 T2 base NoX w pa L1 m1 pb L2 m2) (t : RowKit.Below w.heap.size w w') : TwoC enc et k T1 T2 base (fun b => w.heap.size ≤ b ∧ b < w'.heap.size) w' pa L1 m1 pb L2 m2 := by
  obtain ⟨M1, M2, h1, h2, h3, h4, h5⟩ := h
  exact ⟨M1, M2, h1.below t, h2.below t, fun b e => ⟨(h3 b e).1, Nat.lt_of_lt_of_le (h3 b e).2.1 t.size, (h3 b e).2.2.1, fun q => by have := (h3 b e).2.1; omega⟩, fun b e => ⟨(h4 b e).1, Nat.lt_of_lt_of_le (h4 b e).2.1 t.size, fun q => by have := (h4 b e).2.1; omega⟩, fun b e => e.2⟩
theorem TwoC.on (h : TwoC enc et k T1 T2 base X w pa L1 m1 pb L2 m2) : TwoC enc et k T1 T2 base NoX w pa L1 m1 pb L2 m2 := by
  obtain ⟨M1, M2, h1, h2, h3, h4, h5⟩ := h
  exact ⟨M1, M2, h1, h2, fun b e => ⟨(h3 b e).1, (h3 b e).2.1, (h3 b e).2.2.1, id⟩, fun b e => ⟨(h4 b e).1, (h4 b e).2.1, id⟩, fun b e => e.elim⟩
/-- A change of the blocks X. -/
theorem TwoC.kept (h : TwoC enc et k T1 T2 base X w pa L1 m1 pb L2 m2) (t : Tch X w w') : TwoC enc et k T1 T2 base X w' pa L1 m1 pb L2 m2 := by
  obtain ⟨M1, M2, h1, h2, h3, h4, h5⟩ := h
  exact ⟨M1, M2, h1.kept t (fun b e => (h3 b e).2.2.2), h2.kept t (fun b e => (h4 b e).2.2), fun b e => ⟨(h3 b e).1, Nat.lt_of_lt_of_le (h3 b e).2.1 t.size, (h3 b e).2.2⟩, fun b e => ⟨(h4 b e).1, Nat.lt_of_lt_of_le (h4 b e).2.1 t.size, (h4 b e).2.2⟩, fun b e => Nat.lt_of_lt_of_le (h5 b e) t.size⟩
/-- Off the blocks X, from base on. -/
def Off (base : Nat) (X : Nat → Prop) : Nat → Prop := fun b => base ≤ b ∧ ¬ X b
theorem Off.below (h : Tch (Off base X) w w') (hb : base ≤ w.heap.size) : RowKit.Below base w w' := Tch.below h (fun _ e => e.1) hb
/-- The first column is asked. -/
theorem TwoC.ask1 (h : TwoC enc et k T1 T2 base X w pa L1 m1 pb L2 m2) {P : Ending → Prop} {f : FuncId} {args : Array Value}
    (hc : ∀ M, ColAt enc et k T1 w M pa L1 m1 → Calls Tryd.prog f args w fun e w' => P e ∧ ColAt enc et k T1 w' (New M w w') pa L1' m1 ∧ Tch M w w') :
    Calls Tryd.prog f args w fun e w' => P e ∧ TwoC enc et k T1 T2 base X w' pa L1' m1 pb L2 m2 ∧ Tch (Off base X) w w' := by
  have hlo := h.lo
  obtain ⟨M1, M2, h1, h2, h3, h4, h5⟩ := h
  refine (hc _ h1).mono fun e w' ⟨he, hp, ht⟩ => ⟨he, ⟨_, M2, hp, h2.kept ht (fun b e1 e2 => (h3 b e2).2.2.1 e1), fun b e => ?_, fun b e => ⟨(h4 b e).1, Nat.lt_of_lt_of_le (h4 b e).2.1 ht.size, (h4 b e).2.2⟩, fun b e => Nat.lt_of_lt_of_le (h5 b e) ht.size⟩, ht.mono (fun b e => ⟨(h3 b e).1, (h3 b e).2.2.2⟩)⟩
  rcases e with e | e
  · exact ⟨(h3 b e).1, Nat.lt_of_lt_of_le (h3 b e).2.1 ht.size, (h3 b e).2.2⟩
  · exact ⟨by omega, e.2, fun q => by have := (h4 b q).2.1; omega, fun q => by have := h5 b q; omega⟩
/-- The second column is asked. -/
theorem TwoC.ask2 (h : TwoC enc et k T1 T2 base X w pa L1 m1 pb L2 m2) {P : Ending → Prop} {f : FuncId} {args : Array Value}
    (hc : ∀ M, ColAt enc et k T2 w M pb L2 m2 → Calls Tryd.prog f args w fun e w' => P e ∧ ColAt enc et k T2 w' (New M w w') pb L2' m2 ∧ Tch M w w') :
    Calls Tryd.prog f args w fun e w' => P e ∧ TwoC enc et k T1 T2 base X w' pa L1 m1 pb L2' m2 ∧ Tch (Off base X) w w' := by
  have hlo := h.lo
  obtain ⟨M1, M2, h1, h2, h3, h4, h5⟩ := h
  refine (hc _ h2).mono fun e w' ⟨he, hp, ht⟩ => ⟨he, ⟨M1, _, h1.kept ht (fun b e q => (h3 b e).2.2.1 q), hp, fun b e => ⟨(h3 b e).1, Nat.lt_of_lt_of_le (h3 b e).2.1 ht.size, fun q => ?_, (h3 b e).2.2.2⟩, fun b e => ?_, fun b e => Nat.lt_of_lt_of_le (h5 b e) ht.size⟩, ht.mono (fun b e => ⟨(h4 b e).1, (h4 b e).2.2⟩)⟩
  · rcases q with q | q
    · exact (h3 b e).2.2.1 q
    · have := (h3 b e).2.1; omega
  · rcases e with e | e
    · exact ⟨(h4 b e).1, Nat.lt_of_lt_of_le (h4 b e).2.1 ht.size, (h4 b e).2.2⟩
    · exact ⟨by omega, e.2, fun q => by have := h5 b q; omega⟩
/-- Two that are new. -/
theorem TwoC.of (h : ColAt enc et k T1 w (Fresh w0 w) pa L1 m1) (k2 : ColAt enc et k T2 w' (Fresh w w') pb L2 m2) (t : RowKit.Below w.heap.size w w') (h0 : base ≤ w0.heap.size) (h1 : w0.heap.size ≤ w.heap.size) : TwoC enc et k T1 T2 base NoX w' pa L1 m1 pb L2 m2 := by
  refine ⟨_, _, h.below t, k2, fun b e => ?_, fun b e => ?_, fun b e => e.elim⟩
  · rcases e with e | e
    · exact e.elim
    · refine ⟨by omega, Nat.lt_of_lt_of_le e.2 t.size, fun q => ?_, id⟩
      rcases q with q | q
      · exact q
      · omega
  · rcases e with e | e
    · exact e.elim
    · exact ⟨by omega, e.2, id⟩
/-- The first column is cloned, the clone takes its place; the elder one is asked once more, and left. -/
theorem TwoC.clone {pc : Nat} (h : TwoC enc et k T1 T2 base NoX w pa L1 m1 pb L2 m2) (k1 : ColAt enc et k T1 w' (Fresh w w') pc L1 m1) (t : RowKit.Below w.heap.size w w') {P : Ending → Prop} {f : FuncId} {args : Array Value}
    (hc : ∀ M, ColAt enc et k T1 w' M pa L1 m1 → Calls Tryd.prog f args w' fun e w2 => P e ∧ Tch M w' w2) :
    Calls Tryd.prog f args w' fun e w2 => P e ∧ TwoC enc et k T1 T2 base NoX w2 pc L1 m1 pb L2 m2 ∧ RowKit.Below base w w2 := by
  have hlo := h.lo
  obtain ⟨M1, M2, h1, h2, h3, h4, h5⟩ := h
  refine (hc M1 (h1.below t)).mono fun e w2 ⟨he, ht⟩ => ⟨he, ⟨_, M2, k1.kept ht (fun b e1 e2 => ?_), (h2.below t).kept ht (fun b e1 e2 => (h3 b e2).2.2.1 e1), fun b e => ?_, fun b e => ⟨(h4 b e).1, Nat.lt_of_lt_of_le (Nat.lt_of_lt_of_le (h4 b e).2.1 t.size) ht.size, id⟩, fun b e => e.elim⟩, (t.mono hlo).trans (ht.below (fun b e => (h3 b e).1) (Nat.le_trans hlo t.size))⟩
  · rcases e1 with e1 | e1
    · exact e1
    · have := (h3 b e2).2.1; omega
  · rcases e with e | e
    · exact e.elim
    · exact ⟨by omega, Nat.lt_of_lt_of_le e.2 ht.size, fun q => by have := (h4 b q).2.1; omega, id⟩
end
end Go.Proofs.YtfoagdnbegpjeaaDoor
