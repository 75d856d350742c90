/-
  Objects of the call's own, one or several side by side, off the blocks Z (of no package: stage 11's).
-/
import Derived.Test.YtklpemcchfmdjaaDoorAp11
namespace Go.Proofs.YtklpemcchfmdjaaDoor
set_option linter.unusedSimpArgs false
set_option linter.unusedVariables false
open Go.RowKit Go.Sort Go.Lib Go.Shelf

section
variable {M R : Nat → Prop} {w w' : World}
theorem Tch.fresh (h : Tch M w w') {p : Addr} (hp : w.heap.size ≤ p.block) (u : Value) : Tch M w (w'.setCell p u) :=
  ⟨h.os, h.tape, h.output, by simpa using h.size, fun k hk hn => (heap_setCell_other w' p k u (by omega)).trans (h.block k hk hn)⟩
theorem Tch.alloc (h : Tch M w w') (o : Obj) : Tch M w (w'.alloc o) := h.more (Tch.of (Ba (Below.refl _ _) o))
theorem Tch.drew (h : Tch M w w') : Tch M w w'.drew := ⟨h.os, h.tape, h.output, h.size, h.block⟩
theorem Tch.bel (h : Tch M w w') {w2 : World} (hb : RowKit.Below w'.heap.size w' w2) : Tch M w w2 := h.more (Tch.of hb)
theorem Tch.blk (h : Tch M w w') {b : Nat} {o : Obj} (hb : w.heap[b]? = some o) (hn : ¬ M b) : w'.heap[b]? = some o := (h.block b (Array.getElem?_eq_some_iff.1 hb).1 hn).trans hb
theorem Tch.lt (h : Tch M w w') {b : Nat} (hb : b < w.heap.size) : b < w'.heap.size := Nat.lt_of_lt_of_le hb h.size
theorem one_cell {pa : Nat} {a : Value} {t : Nat} (h : w.heap[pa]? = some (.cells #[a] t (0, 0))) : w.cell? ⟨pa, 0, none⟩ = some a ∧ w.frozen? ⟨pa, 0, none⟩ = false := by
  simp [World.cell?, World.frozen?, h]
theorem three_cells {pa : Nat} {a b c : Value} {t : Nat} (h : w.heap[pa]? = some (.cells #[a, b, c] t (0, 0))) : (w.cell? ⟨pa, 0, none⟩ = some a ∧ w.cell? ⟨pa, 1, none⟩ = some b ∧ w.cell? ⟨pa, 2, none⟩ = some c) ∧ w.frozen? ⟨pa, 2, none⟩ = false := by
  simp [World.cell?, World.frozen?, h]
end
section
variable {α : Type} [Inhabited α] {enc : α → List Value} {et k : Nat} {w : World}
theorem row_cellsK (hk : ∀ x, (enc x).length = k) {base g n cap : Nat} {l : List α} (h : w.ownsRow base et k (.slice (some ⟨g, 0, none⟩) n cap) n (flat enc l)) {i : Nat} (hi : i < l.length) : ∀ c u, (enc l[i]!)[c]? = some u → w.cell? ⟨g, i * k + c, none⟩ = some u := fun c u hu => by
  have hc : c < k := by have := (List.getElem?_eq_some_iff.1 hu).1; rwa [hk] at this
  have := cellsI h (i * k + c) u ((flat_get hk l i c hi hc).trans hu)
  rwa [Nat.zero_add] at this
end
/-- Below base and at Z nothing has changed. -/
def OffZ (Z : Nat → Prop) (base : Nat) : Nat → Prop := fun b => base ≤ b ∧ ¬ Z b
abbrev NoZ : Nat → Prop := fun _ => False
abbrev Ob := World → (Nat → Prop) → Prop
structure Fr (P : Ob) : Prop where
  kept : ∀ {w w' : World} {R M : Nat → Prop}, P w R → Tch M w w' → (∀ b, R b → ¬ M b) → P w' R
  mono : ∀ {w : World} {M M' : Nat → Prop}, P w M → (∀ b, M b → M' b) → P w M'
/-- Two objects, apart from one another. -/
def And2 (P Q : Ob) : Ob := fun w M => ∃ M1 M2, P w M1 ∧ Q w M2 ∧ (∀ b, M1 b → M b ∧ ¬ M2 b) ∧ ∀ b, M2 b → M b
def OO (P : Ob) (Z : Nat → Prop) (base : Nat) (w : World) : Prop := ∃ M, P w M ∧ (∀ b, M b → base ≤ b ∧ ¬ Z b ∧ b < w.heap.size) ∧ (∀ b, Z b → b < w.heap.size) ∧ base ≤ w.heap.size
section
variable {P P' Q : Ob} {Z Z' : Nat → Prop} {base : Nat} {w w' : World}
theorem fr_and (hP : Fr P) (hQ : Fr Q) : Fr (And2 P Q) where
  kept h t hd := by
    obtain ⟨M1, M2, h1, h2, h3, h4⟩ := h
    exact ⟨M1, M2, hP.kept h1 t (fun b e => hd b (h3 b e).1), hQ.kept h2 t (fun b e => hd b (h4 b e)), h3, h4⟩
  mono h hM := by
    obtain ⟨M1, M2, h1, h2, h3, h4⟩ := h
    exact ⟨M1, M2, h1, h2, fun b e => ⟨hM b (h3 b e).1, (h3 b e).2⟩, fun b e => hM b (h4 b e)⟩
theorem Fr.below (hP : Fr P) {R : Nat → Prop} (h : P w R) (t : RowKit.Below w.heap.size w w') : P w' R := hP.kept (M := fun _ => False) h (Tch.of t) (fun _ _ e => e)
theorem OO.below (hP : Fr P) (h : OO P Z base w) (t : RowKit.Below w.heap.size w w') : OO P Z base w' := by
  obtain ⟨M, h1, h2, h3, h4⟩ := h
  exact ⟨M, hP.below h1 t, fun b e => ⟨(h2 b e).1, (h2 b e).2.1, Nat.lt_of_lt_of_le (h2 b e).2.2 t.size⟩, fun b e => Nat.lt_of_lt_of_le (h3 b e) t.size, Nat.le_trans h4 t.size⟩
theorem OO.turn (hP : Fr P) (h : OO P Z base w) (t : Tch Z w w') (hZ : ∀ b, Z' b → (Z b ∨ b < base ∨ w.heap.size ≤ b) ∧ b < w'.heap.size) : OO P Z' base w' := by
  obtain ⟨M, h1, h2, h3, h4⟩ := h
  refine ⟨M, hP.kept h1 t (fun b e => (h2 b e).2.1), fun b e => ⟨(h2 b e).1, fun z => ?_, t.lt (h2 b e).2.2⟩, fun b e => (hZ b e).2, Nat.le_trans h4 t.size⟩
  have h6 := h2 b e
  rcases (hZ b z).1 with c | c | c
  · exact h6.2.1 c
  · omega
  · omega
theorem OO.lo (h : OO P Z base w) : base ≤ w.heap.size := h.choose_spec.2.2.2
theorem OO.zlt (h : OO P Z base w) : ∀ b, Z b → b < w.heap.size := h.choose_spec.2.2.1
theorem OO.imp (h : OO P Z base w) (hi : ∀ M, P w M → P' w M) : OO P' Z base w := by
  obtain ⟨M, h1, h2⟩ := h
  exact ⟨M, hi M h1, h2⟩
theorem OO.new (hp : P w' (Fresh w w')) (hb : base ≤ w.heap.size) (hs : w.heap.size ≤ w'.heap.size) (hZ : ∀ b, Z b → b < w.heap.size) : OO P Z base w' :=
  ⟨_, hp, fun b e => e.elim (fun e => e.elim) (fun e => ⟨by omega, fun z => by have := hZ b z; omega, e.2⟩), fun b e => Nat.lt_of_lt_of_le (hZ b e) hs, Nat.le_trans hb hs⟩
/-- Another one is made. -/
theorem OO.beside (hP : Fr P) (hQ : Fr Q) (h : OO P Z base w) (hq : Q w' (Fresh w w')) (hb : RowKit.Below w.heap.size w w') : OO (And2 P Q) Z base w' := by
  obtain ⟨M, h1, h2, h3, h4⟩ := h
  refine ⟨fun b => M b ∨ Fresh w w' b, ⟨M, Fresh w w', hP.below h1 hb, hq, fun b e => ⟨.inl e, fun f => f.elim (fun f => f.elim) (fun f => by have := (h2 b e).2.2; omega)⟩, fun b e => .inr e⟩, fun b e => ?_, fun b e => Nat.lt_of_lt_of_le (h3 b e) hb.size, Nat.le_trans h4 hb.size⟩
  rcases e with e | e
  · exact ⟨(h2 b e).1, (h2 b e).2.1, Nat.lt_of_lt_of_le (h2 b e).2.2 hb.size⟩
  · exact e.elim (fun e => e.elim) (fun e => ⟨by omega, fun z => by have := h3 b z; omega, e.2⟩)
/-- What a call on the object is to say. -/
def Asks (base : Nat) (w : World) (P P' : Ob) (fn : FuncId) (args : Array Value) (E : Ending → Prop) : Prop :=
  ∀ M, (∀ b, M b → base ≤ b ∧ b < w.heap.size) → P w M → Calls Tryd.prog fn args w fun e w' => E e ∧ P' w' (New M w w') ∧ Tch M w w'
theorem OO.ask {E : Ending → Prop} {fn : FuncId} {args : Array Value} (h : OO P Z base w) (hc : Asks base w P P' fn args E) :
    Calls Tryd.prog fn args w fun e w' => E e ∧ OO P' Z base w' ∧ Tch (OffZ Z base) w w' := by
  obtain ⟨M, h1, h2, h3, h4⟩ := h
  refine (hc M (fun b e => ⟨(h2 b e).1, (h2 b e).2.2⟩) h1).mono fun e w' ⟨he, hT, ht⟩ => ⟨he, ⟨_, hT, fun b e => ?_, fun b e => ht.lt (h3 b e), Nat.le_trans h4 ht.size⟩, ht.mono fun b e => ⟨(h2 b e).1, (h2 b e).2.1⟩⟩
  rcases e with e | e
  · exact ⟨(h2 b e).1, (h2 b e).2.1, ht.lt (h2 b e).2.2⟩
  · exact ⟨by omega, fun c => by have := h3 b c; omega, e.2⟩
theorem asks_1 {E : Ending → Prop} {fn : FuncId} {args : Array Value} (hQ : Fr Q) (hc : Asks base w P P' fn args E) : Asks base w (And2 P Q) (And2 P' Q) fn args E := fun M hM h => by
  obtain ⟨M1, M2, h1, h2, h3, h4⟩ := h
  refine (hc M1 (fun b e => hM b (h3 b e).1) h1).mono fun e w' ⟨he, hT, ht⟩ => ⟨he, ⟨New M1 w w', M2, hT, hQ.kept h2 ht (fun b e f => (h3 b f).2 e), fun b e => ?_, fun b e => .inl (h4 b e)⟩, ht.mono fun b e => (h3 b e).1⟩
  rcases e with e | e
  · exact ⟨.inl (h3 b e).1, (h3 b e).2⟩
  · exact ⟨.inr e, fun f => by have := (hM b (h4 b f)).2; omega⟩
theorem asks_2 {E : Ending → Prop} {fn : FuncId} {args : Array Value} {Q' : Ob} (hP : Fr P) (hc : Asks base w Q Q' fn args E) : Asks base w (And2 P Q) (And2 P Q') fn args E := fun M hM h => by
  obtain ⟨M1, M2, h1, h2, h3, h4⟩ := h
  refine (hc M2 (fun b e => hM b (h4 b e)) h2).mono fun e w' ⟨he, hT, ht⟩ => ⟨he, ⟨M1, New M2 w w', hP.kept h1 ht (fun b e f => (h3 b e).2 f), hT, fun b e => ?_, fun b e => ?_⟩, ht.mono fun b e => h4 b e⟩
  · exact ⟨.inl (h3 b e).1, fun f => f.elim (h3 b e).2 (fun f => by have := (hM b (h3 b e).1).2; omega)⟩
  · rcases e with e | e
    · exact .inl (h4 b e)
    · exact .inr e
theorem OO.read {X : Ending → World → Prop} {fn : FuncId} {args : Array Value} (h : OO P Z base w) (hc : ∀ M, P w M → Calls Tryd.prog fn args w X) : Calls Tryd.prog fn args w X := hc _ h.choose_spec.1
theorem OO.tch (h : Tch (OffZ Z base) w w') (hb : base ≤ w.heap.size) : RowKit.Below base w w' := Tch.below h (fun _ e => e.1) hb
end
/-- A call that leaves the object as it is. -/
theorem asks_same {P : Ob} (hP : Fr P) {base : Nat} {w : World} {fn : FuncId} {args : Array Value} {E : Ending → Prop} (hc : ∀ M, P w M → Calls Tryd.prog fn args w fun e w' => E e ∧ RowKit.Below w.heap.size w w') : Asks base w P P fn args E := fun M _ h =>
  (hc M h).mono fun e w' ⟨he, hb⟩ => ⟨he, hP.mono (hP.below h hb) (fun b e => .inl e), Tch.of hb⟩
theorem three_blk {w : World} {o1 o2 : Obj} {w3 : World} (h : RowKit.Below ((w.alloc o1).alloc o2).heap.size ((w.alloc o1).alloc o2) w3) : w3.heap[w.heap.size]? = some o1 ∧ w3.heap[w.heap.size + 1]? = some o2 := by
  have k1 := blk_below (heap_alloc_new w o1) (Ba (Below.refl _ _) o2)
  have k2 := heap_alloc_new (w.alloc o1) o2
  rw [show (w.alloc o1).heap.size = w.heap.size + 1 by simp] at k2
  exact ⟨blk_below k1 h, blk_below k2 h⟩
theorem cells3 {w : World} {b : Nat} {t : TypeId} {a1 a2 a3 : Value} (h : w.heap[b]? = some (.cells #[a1, a2, a3] t (0, 0))) :
    (w.cell? ⟨b, 0, none⟩ = some a1 ∧ w.cell? ⟨b, 1, none⟩ = some a2 ∧ w.cell? ⟨b, 2, none⟩ = some a3) ∧ w.frozen? ⟨b, 0, none⟩ = false ∧ w.frozen? ⟨b, 1, none⟩ = false ∧ w.frozen? ⟨b, 2, none⟩ = false := by
  refine ⟨⟨?_, ?_, ?_⟩, ?_, ?_, ?_⟩ <;> simp [World.cell?, World.frozen?, h]
theorem row_base0 {w : World} {b0 et k n : Nat} {v : Value} {xs : List Value} (h : w.ownsRow b0 et k v n xs) {g : Nat} (hg : v.ownBlock = some g) : b0 ≤ g := by
  rcases h.2 with ⟨rfl, _⟩ | ⟨g', cap, cur, rfl, hb, hh, _⟩
  · simp [Value.ownBlock] at hg
  · simp only [Value.ownBlock, Option.some.injEq] at hg
    subst hg
    exact hb
theorem own_rowat {α : Type} {enc : α → List Value} {et k : Nat} {w : World} {base : Nat} {v : Value} {l : List α} {Z : Nat → Prop} (h : w.ownsRow base et k v l.length (flat enc l)) (hz : ∀ b, base ≤ b → b < w.heap.size → Z b) : RowAt enc et k w Z v l := ⟨row_mono h (Nat.zero_le _), fun g hg => hz g (row_base0 h hg) (row_lt h hg)⟩
end Go.Proofs.YtklpemcchfmdjaaDoor
