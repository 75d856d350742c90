/-
  A column in memory: its row, its room; what a call on it leaves alone; two things of the call's own side by side.
-/
import Derived.Test.YtknfmjjlfhfocaaDoorRow6
namespace Go.Proofs.YtknfmjjlfhfocaaDoor
set_option linter.unusedSimpArgs false
set_option linter.unusedVariables false
open Go.RowKit Go.Sort Go.Lib Go.Shelf

/-- At block pa, of type T, is a column: its slice is v, its things are L, it may hold m; its blocks are among M. -/
def ColIs {α : Type} (enc : α → List Value) (et k T : Nat) (w : World) (M : Nat → Prop) (pa : Nat) (v : Value) (L : List α) (m : Int) : Prop :=
  w.heap[pa]? = some (.cells #[v, .int .i64 m] T (0, 0)) ∧ M pa ∧ RowAt enc et k w M v L
def ColAt {α : Type} (enc : α → List Value) (et k T : Nat) (w : World) (M : Nat → Prop) (pa : Nat) (L : List α) (m : Int) : Prop := ∃ v, ColIs enc et k T w M pa v L m

section
variable {α : Type} {enc : α → List Value} {et k T pa : Nat} {L L' : List α} {m : Int} {M R : Nat → Prop} {w w' w2 : World} {v v' : Value}
theorem ColIs.at (h : ColIs enc et k T w M pa v L m) : ColAt enc et k T w M pa L m := ⟨v, h⟩
theorem ColIs.mono {M' : Nat → Prop} (h : ColIs enc et k T w M pa v L m) (hM : ∀ b, M b → M' b) : ColIs enc et k T w M' pa v L m := ⟨h.1, hM _ h.2.1, h.2.2.mono hM⟩
theorem ColAt.mono {M' : Nat → Prop} (h : ColAt enc et k T w M pa L m) (hM : ∀ b, M b → M' b) : ColAt enc et k T w M' pa L m := h.imp fun _ q => q.mono hM
theorem ColIs.lt (h : ColIs enc et k T w M pa v L m) : pa < w.heap.size := (Array.getElem?_eq_some_iff.1 h.1).1
theorem ColAt.lt (h : ColAt enc et k T w M pa L m) : pa < w.heap.size := h.choose_spec.lt
theorem ColIs.kept (h : ColIs enc et k T w R pa v L m) (t : Tch M w w') (hd : ∀ b, R b → ¬ M b) : ColIs enc et k T w' R pa v L m :=
  ⟨(t.block pa h.lt (hd pa h.2.1)).trans h.1, h.2.1, h.2.2.kept t hd⟩
theorem ColAt.kept (h : ColAt enc et k T w R pa L m) (t : Tch M w w') (hd : ∀ b, R b → ¬ M b) : ColAt enc et k T w' R pa L m := h.imp fun _ q => q.kept t hd
theorem ColIs.below (h : ColIs enc et k T w R pa v L m) (t : RowKit.Below w.heap.size w w') : ColIs enc et k T w' R pa v L m := ⟨(t.block pa h.lt).trans h.1, h.2.1, h.2.2.below t⟩
theorem ColAt.below (h : ColAt enc et k T w R pa L m) (t : RowKit.Below w.heap.size w w') : ColAt enc et k T w' R pa L m := h.imp fun _ q => q.below t
theorem ColIs.cells (h : ColIs enc et k T w M pa v L m) : w.cell? ⟨pa, 0, none⟩ = some v ∧ w.cell? ⟨pa, 1, none⟩ = some (.int .i64 m) ∧ w.frozen? ⟨pa, 0, none⟩ = false ∧ w.frozen? ⟨pa, 1, none⟩ = false := two_cells h.1

/-- What a walk needs of a column: its slice's form, its cells, its row. -/
theorem ColAt.open (h : ColAt enc et k T w M pa L m) : ∃ p cap, ColIs enc et k T w M pa (.slice p L.length cap) L m ∧ L.length ≤ cap ∧ cap ≤ 9223372036854775807 ∧ (0 < L.length → ∃ g, p = some ⟨g, 0, none⟩ ∧ g < w.heap.size) := by
  obtain ⟨v, h⟩ := h
  obtain ⟨p, cap, rfl, h1, h2, h3⟩ := row_val h.2.2.1
  unfold maxLen at h2
  exact ⟨p, cap, h, h1, by omega, fun q => (h3 q).imp fun g e => ⟨e.1, e.2.1⟩⟩

/-- The slice is stored. -/
theorem col_put (hT : T ≠ et) {a : Value} (h1 : w.heap[pa]? = some (.cells #[a, .int .i64 m] T (0, 0))) (hm : M pa) (hr : RowAt enc et k w M v L) :
    ColIs enc et k T (w.setCell ⟨pa, 0, none⟩ v) M pa v L m ∧ Tch M w (w.setCell ⟨pa, 0, none⟩ v) := by
  have e := heap_setCell_same w pa 0 #[a, .int .i64 m] T v h1
  refine ⟨⟨by simpa using e, hm, ⟨row_keep hr.1 (fun g hg => ?_), hr.2⟩⟩, Tch.set w hm v⟩
  obtain ⟨c, hc⟩ := row_type hr.1 hg
  exact heap_setCell_other w ⟨pa, 0, none⟩ g v (type_apart hc h1 (Ne.symm hT))
/-- A cell of the row is stored. -/
theorem ColIs.cell (hT : T ≠ et) {g ln cs : Nat} (h : ColIs enc et k T w M pa (.slice (some ⟨g, 0, none⟩) ln cs) L m) (j : Nat) (u : Value) (hS : (flat enc L).set j u = flat enc L') (hl : L'.length = L.length) :
    ColIs enc et k T (w.setCell ⟨g, j, none⟩ u) M pa (.slice (some ⟨g, 0, none⟩) ln cs) L' m ∧ Tch M w (w.setCell ⟨g, j, none⟩ u) := by
  obtain ⟨h1, h2, h3⟩ := h
  obtain ⟨c3, hc3⟩ := row_type h3.1 (g := g) rfl
  have n1 : pa ≠ g := type_apart h1 hc3 hT
  have hln : ln = L.length := by
    obtain ⟨p, cap, e, _⟩ := row_val h3.1
    simp only [Value.slice.injEq] at e
    exact e.2.1
  subst hln
  have hst := (h3.1.stored j u).1
  refine ⟨⟨(heap_setCell_other w ⟨g, j, none⟩ pa u n1).trans h1, h2, ⟨?_, h3.2⟩⟩, Tch.set w (h3.2 g rfl) u⟩
  rw [hS] at hst
  rw [hl]
  exact hst
/-- The front of the row takes the row's place. -/
theorem ColIs.front (hT : T ≠ et) (hk : ∀ x, (enc x).length = k) {g ln cs : Nat} (h : ColIs enc et k T w M pa (.slice (some ⟨g, 0, none⟩) ln cs) L m) (j : Nat) (hj : j ≤ L.length) :
    ColIs enc et k T (w.setCell ⟨pa, 0, none⟩ (.slice (some ⟨g, 0, none⟩) j cs)) M pa (.slice (some ⟨g, 0, none⟩) j cs) (L.take j) m ∧ Tch M w (w.setCell ⟨pa, 0, none⟩ (.slice (some ⟨g, 0, none⟩) j cs)) := by
  have hln : ln = L.length := by
    obtain ⟨p, cap, e, _⟩ := row_val h.2.2.1
    simp only [Value.slice.injEq] at e
    exact e.2.1
  subst hln
  refine col_put hT h.1 h.2.1 ⟨?_, fun g' hg => h.2.2.2 g' hg⟩
  exact row_front hk h.2.2.1 rfl j hj
/-- Behind an append onto the row: the column's block. -/
theorem ColIs.grown (hT : T ≠ et) (h : ColIs enc et k T w M pa v L m) (hg : w.grownBy w' v.ownBlock) : w'.heap[pa]? = some (.cells #[v, .int .i64 m] T (0, 0)) :=
  blk_grown h.2.2 hg h.1 hT

/-- A column that the call has made. -/
theorem col_made {w1 : World} (hb : RowKit.Below w.heap.size w w1) (h1 : w1.ownsRow w.heap.size et k v L.length (flat enc L)) (T : Nat) (m : Int) :
    ColIs enc et k T (w1.alloc (.cells #[v, .int .i64 m] T)) (Fresh w (w1.alloc (.cells #[v, .int .i64 m] T))) w1.heap.size v L m :=
  ⟨heap_alloc_new w1 _, .inr ⟨hb.size, by simp⟩, row_fresh (row_below h1 (Ba (Below.refl _ w1) _))⟩
/-- A column is answered: in new blocks. -/
def ColNew (enc : α → List Value) (et k T : Nat) (w : World) (L : List α) (m : Int) (e : Ending) (w' : World) : Prop :=
  ∃ pb, e = .returned (.pointer (some ⟨pb, 0, none⟩)) ∧ ColAt enc et k T w' (Fresh w w') pb L m ∧ RowKit.Below w.heap.size w w'

/-! ### A column of the call's own, from base on. -/
def ColX (enc : α → List Value) (et k T base : Nat) (w : World) (pa : Nat) (L : List α) (m : Int) : Prop :=
  ∃ M, ColAt enc et k T w M pa L m ∧ (∀ b, M b → base ≤ b ∧ b < w.heap.size ∧ ∃ cs t f, w.heap[b]? = some (.cells cs t f) ∧ (t = T ∨ t = et)) ∧ base ≤ w.heap.size
/-- Only blocks from base on, of the column's types, have changed. -/
def Kx (et T base : Nat) (w w' : World) : Prop := Tch (fun b => base ≤ b ∧ ∃ cs t f, w.heap[b]? = some (.cells cs t f) ∧ (t = T ∨ t = et)) w w'
theorem Kx.of {base : Nat} (h : RowKit.Below w.heap.size w w') : Kx et T base w w' := Tch.of h
theorem Kx.below {base : Nat} (h : Kx et T base w w') (hb : base ≤ w.heap.size) : RowKit.Below base w w' := Tch.below h (fun _ e => e.1) hb
theorem Kx.cells {base : Nat} (h : Kx et T base w w') {b : Nat} {cs : Array Value} {t : Nat} {f : Nat × Nat} (hb : w.heap[b]? = some (.cells cs t f)) (h1 : t ≠ T) (h2 : t ≠ et) : w'.heap[b]? = some (.cells cs t f) :=
  (h.block b (Array.getElem?_eq_some_iff.1 hb).1 (fun e => by
    obtain ⟨_, cs', t', f', hc, hp⟩ := e
    rw [hb] at hc
    simp only [Option.some.injEq, Obj.cells.injEq] at hc
    rcases hp with hp | hp
    · exact h1 (hc.2.1.trans hp)
    · exact h2 (hc.2.1.trans hp))).trans hb
theorem Kx.map {base : Nat} (h : Kx et T base w w') {b : Nat} {es : Array MapEntry} {c : Nat} (hb : w.heap[b]? = some (.map es c)) : w'.heap[b]? = some (.map es c) :=
  (h.block b (Array.getElem?_eq_some_iff.1 hb).1 (fun e => by
    obtain ⟨_, cs', t', f', hc, hp⟩ := e
    rw [hb] at hc
    cases hc)).trans hb
theorem ColAt.shrink (h : ColAt enc et k T w M pa L m) : ColAt enc et k T w (fun b => M b ∧ ∃ cs t f, w.heap[b]? = some (.cells cs t f) ∧ (t = T ∨ t = et)) pa L m := by
  obtain ⟨v, h1, h2, h3⟩ := h
  refine ⟨v, h1, ⟨h2, _, _, _, h1, .inl rfl⟩, h3.1, fun g hg => ⟨h3.2 g hg, ?_⟩⟩
  obtain ⟨c, hc⟩ := row_type h3.1 hg
  exact ⟨_, _, _, hc, .inr rfl⟩
variable {base : Nat}
theorem ColX.at (h : ColX enc et k T base w pa L m) : ∃ M, ColAt enc et k T w M pa L m := ⟨_, h.choose_spec.1⟩
theorem ColX.lo (h : ColX enc et k T base w pa L m) : base ≤ w.heap.size := h.choose_spec.2.2
theorem ColX.below (h : ColX enc et k T base w pa L m) (t : RowKit.Below w.heap.size w w') : ColX enc et k T base w' pa L m := by
  obtain ⟨M, h1, h2, h3⟩ := h
  exact ⟨M, h1.below t, fun b hb => ⟨(h2 b hb).1, Nat.lt_of_lt_of_le (h2 b hb).2.1 t.size, by
    obtain ⟨cs, ty, f, hc, hp⟩ := (h2 b hb).2.2
    exact ⟨cs, ty, f, blk_below hc t, hp⟩⟩, Nat.le_trans h3 t.size⟩
/-- A change of its own. -/
theorem ColX.ask {P : Ending → Prop} {f : FuncId} {args : Array Value} (h : ColX enc et k T base w pa L m)
    (hc : ∀ M, ColAt enc et k T w M pa L m → Calls Tryd.prog f args w fun e w' => P e ∧ ColAt enc et k T w' (New M w w') pa L' m ∧ Tch M w w') :
    Calls Tryd.prog f args w fun e w' => P e ∧ ColX enc et k T base w' pa L' m ∧ Kx et T base w w' := by
  obtain ⟨M, h1, h2, h3⟩ := h
  refine (hc _ h1).mono fun e w' ⟨he, hp, ht⟩ => ⟨he, ⟨_, hp.shrink, fun b q => ?_, Nat.le_trans h3 ht.size⟩, ht.mono fun b e => ⟨(h2 b e).1, (h2 b e).2.2⟩⟩
  rcases q.1 with e | e
  · exact ⟨(h2 b e).1, Nat.lt_of_lt_of_le (h2 b e).2.1 ht.size, q.2⟩
  · exact ⟨by omega, e.2, q.2⟩
/-- A question that changes nothing that was there. -/
theorem ColX.read {P : Ending → World → Prop} {f : FuncId} {args : Array Value} (h : ColX enc et k T base w pa L m)
    (hc : ∀ M, ColAt enc et k T w M pa L m → Calls Tryd.prog f args w P) : Calls Tryd.prog f args w P := hc _ h.choose_spec.1
/-- A column that is new. -/
theorem ColX.new {w0 : World} (h : ColAt enc et k T w' (Fresh w0 w') pa L m) (hb : base ≤ w0.heap.size) (hs : w0.heap.size ≤ w'.heap.size) : ColX enc et k T base w' pa L m :=
  ⟨_, h.shrink, fun b e => by
    rcases e.1 with q | q
    · exact q.elim
    · exact ⟨by omega, q.2, e.2⟩, by omega⟩
end
end Go.Proofs.YtknfmjjlfhfocaaDoor
