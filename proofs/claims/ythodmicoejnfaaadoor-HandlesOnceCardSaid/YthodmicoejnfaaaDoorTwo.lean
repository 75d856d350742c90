/-
  Two pools of the call's own, side by side.
-/
import Derived.Test.YthodmicoejnfaaaDoorSt
namespace Go.Proofs.YthodmicoejnfaaaDoor
set_option linter.unusedSimpArgs false
set_option linter.unusedVariables false
open Go.RowKit Go.Sort Go.Lib Go.Shelf

section
variable {T1 T2 base pa pb : Nat} {S1 S2 S1' S2' : List Slt} {F1 F2 F1' F2' : List Int} {w w' : World}

/-- A pool at pa (of type T1), one at pb (of type T2), no block in both, all from base on. -/
def Two (T1 T2 base : Nat) (w : World) (pa : Nat) (S1 : List Slt) (F1 : List Int) (pb : Nat) (S2 : List Slt) (F2 : List Int) : Prop :=
  ∃ M1 M2 : Nat → Prop, PoolAt T1 w M1 pa S1 F1 ∧ PoolAt T2 w M2 pb S2 F2 ∧ (∀ b, M1 b → base ≤ b ∧ b < w.heap.size ∧ ¬ M2 b) ∧ ∀ b, M2 b → base ≤ b ∧ b < w.heap.size
theorem Two.first (h : Two T1 T2 base w pa S1 F1 pb S2 F2) : ∃ M, PoolAt T1 w M pa S1 F1 := ⟨_, h.choose_spec.choose_spec.1⟩
theorem Two.second (h : Two T1 T2 base w pa S1 F1 pb S2 F2) : ∃ M, PoolAt T2 w M pb S2 F2 := ⟨_, h.choose_spec.choose_spec.2.1⟩
theorem Two.lo (h : Two T1 T2 base w pa S1 F1 pb S2 F2) : base ≤ w.heap.size := by
  obtain ⟨M1, M2, h1, h2, h3, h4⟩ := h
  obtain ⟨vs, vf, _, hm, _⟩ := h1
  have := h3 _ hm
  omega
theorem Two.below (h : Two T1 T2 base w pa S1 F1 pb S2 F2) (t : RowKit.Below w.heap.size w w') : Two T1 T2 base w' pa S1 F1 pb S2 F2 := by
  obtain ⟨M1, M2, h1, h2, h3, h4⟩ := h
  exact ⟨M1, M2, h1.below t, h2.below t, fun b e => ⟨(h3 b e).1, Nat.lt_of_lt_of_le (h3 b e).2.1 t.size, (h3 b e).2.2⟩, fun b e => ⟨(h4 b e).1, Nat.lt_of_lt_of_le (h4 b e).2 t.size⟩⟩
/-- The first pool is asked. -/
theorem Two.ask1 (h : Two T1 T2 base w pa S1 F1 pb S2 F2) {P : Ending → Prop} {f : FuncId} {args : Array Value}
    (hc : ∀ M, PoolAt T1 w M pa S1 F1 → Calls Tryd.prog f args w fun e w' => P e ∧ PoolAt T1 w' (New M w w') pa S1' F1' ∧ Tch M w w') :
    Calls Tryd.prog f args w fun e w' => P e ∧ Two T1 T2 base w' pa S1' F1' pb S2 F2 ∧ Kq T1 base (fun _ => False) w w' := by
  have hlo := h.lo
  obtain ⟨M1, M2, h1, h2, h3, h4⟩ := h
  refine (hc _ h1.shrink).mono fun e w' ⟨he, hp, ht⟩ => ⟨he, ⟨_, M2, hp, h2.kept ht (fun b e1 e2 => (h3 b e2.1).2.2 e1), fun b e => ?_, fun b e => ⟨(h4 b e).1, Nat.lt_of_lt_of_le (h4 b e).2 ht.size⟩⟩, ht.mono (fun b e => ⟨(h3 b e.1).1, fun h => h, e.2⟩)⟩
  rcases e with e | e
  · exact ⟨(h3 b e.1).1, Nat.lt_of_lt_of_le (h3 b e.1).2.1 ht.size, (h3 b e.1).2.2⟩
  · exact ⟨by omega, e.2, fun k => by have := (h4 b k).2; omega⟩
/-- The second pool is asked. -/
theorem Two.ask2 (h : Two T1 T2 base w pa S1 F1 pb S2 F2) {P : Ending → Prop} {f : FuncId} {args : Array Value}
    (hc : ∀ M, PoolAt T2 w M pb S2 F2 → Calls Tryd.prog f args w fun e w' => P e ∧ PoolAt T2 w' (New M w w') pb S2' F2' ∧ Tch M w w') :
    Calls Tryd.prog f args w fun e w' => P e ∧ Two T1 T2 base w' pa S1 F1 pb S2' F2' ∧ Kq T2 base (fun _ => False) w w' := by
  have hlo := h.lo
  obtain ⟨M1, M2, h1, h2, h3, h4⟩ := h
  refine (hc _ h2.shrink).mono fun e w' ⟨he, hp, ht⟩ => ⟨he, ⟨M1, _, h1.kept ht (fun b e k => (h3 b e).2.2 k.1), hp, fun b e => ⟨(h3 b e).1, Nat.lt_of_lt_of_le (h3 b e).2.1 ht.size, fun k => ?_⟩, fun b e => ?_⟩, ht.mono (fun b e => ⟨(h4 b e.1).1, fun h => h, e.2⟩)⟩
  · rcases k with k | k
    · exact (h3 b e).2.2 k.1
    · have := (h3 b e).2.1; omega
  · rcases e with e | e
    · exact ⟨(h4 b e.1).1, Nat.lt_of_lt_of_le (h4 b e.1).2 ht.size⟩
    · exact ⟨by omega, e.2⟩
/-- A pool that is new beside one that was there. -/
theorem Two.of {X : Nat → Prop} {w0 : World} (h : PoolX T1 base X w0 pa S1 F1) (k : PoolAt T2 w (Fresh w0 w) pb S2 F2) (t : RowKit.Below w0.heap.size w0 w) : Two T1 T2 base w pa S1 F1 pb S2 F2 := by
  have hlo := h.lo
  obtain ⟨M, h1, h2, _⟩ := h
  refine ⟨M, _, h1.below t, k, fun b e => ⟨(h2 b e).1, Nat.lt_of_lt_of_le (h2 b e).2.1 t.size, fun q => ?_⟩, fun b e => ?_⟩
  · rcases q with q | q
    · exact q
    · have := (h2 b e).2.1; omega
  · rcases e with e | e
    · exact e.elim
    · exact ⟨by omega, e.2⟩
/-- The first pool is cloned, the clone takes its place; the elder one is asked once more, and left. -/
theorem Two.clone {pc : Nat} (h : Two T1 T2 base w pa S1 F1 pb S2 F2) (k : PoolAt T1 w' (Fresh w w') pc S1 F1) (t : RowKit.Below w.heap.size w w') {P : Ending → Prop} {f : FuncId} {args : Array Value}
    (hc : ∀ M, PoolAt T1 w' M pa S1 F1 → Calls Tryd.prog f args w' fun e w2 => P e ∧ Tch M w' w2) :
    Calls Tryd.prog f args w' fun e w2 => P e ∧ Two T1 T2 base w2 pc S1 F1 pb S2 F2 ∧ RowKit.Below base w w2 := by
  have hlo := h.lo
  obtain ⟨M1, M2, h1, h2, h3, h4⟩ := h
  refine (hc M1 (h1.below t)).mono fun e w2 ⟨he, ht⟩ => ⟨he, ⟨_, M2, k.kept ht (fun b e1 e2 => ?_), (h2.below t).kept ht (fun b e1 e2 => (h3 b e2).2.2 e1), fun b e => ?_, fun b e => ⟨(h4 b e).1, Nat.lt_of_lt_of_le (Nat.lt_of_lt_of_le (h4 b e).2 t.size) ht.size⟩⟩, (t.mono hlo).trans (ht.below (fun b e => (h3 b e).1) (Nat.le_trans hlo t.size))⟩
  · rcases e1 with e1 | e1
    · exact e1
    · have := (h3 b e2).2.1; omega
  · rcases e with e | e
    · exact e.elim
    · exact ⟨by omega, Nat.lt_of_lt_of_le e.2 ht.size, fun q => by have := (h4 b q).2; omega⟩
end
end Go.Proofs.YthodmicoejnfaaaDoor
