/-
  A heap in memory: its row, the blocks that are its own; a heap of the call's own, off the blocks Z that the law keeps beside it.
-/
import Derived.Test.YtaceahjomhgccaaDoorRow6
import Derived.Test.YtaceahjomhgccaaDoorPh10
namespace Go.Proofs.YtaceahjomhgccaaDoor
set_option linter.unusedSimpArgs false
set_option linter.unusedVariables false
open Go.RowKit Go.Sort Go.Lib Go.Shelf

theorem apH : Ap encH 27 35 2 (.agg #[.int .i64 0, .int .i64 0]) 16 :=
  ⟨Tryd.underlying27, info_parts (by kernel_rfl), by decide, by decide, by decide, lenH, oneH⟩
def aggH (x : Hd) : Value := .agg #[.int .i64 x.1, .int .i64 x.2]
def psP (pa : Nat) : Value := .pointer (some ⟨pa, 0, none⟩)

section
variable {M R : Nat → Prop} {w w' : World}
theorem Tch.fresh (h : Tch M w w') {p : Addr} (hp : w.heap.size ≤ p.block) (u : Value) : Tch M w (w'.setCell p u) :=
  ⟨h.os, h.tape, h.output, by simpa using h.size, fun k hk hn => (heap_setCell_other w' p k u (by omega)).trans (h.block k hk hn)⟩
theorem Tch.alloc (h : Tch M w w') (o : Obj) : Tch M w (w'.alloc o) := h.more (Tch.of (Ba (Below.refl _ _) o))
theorem Tch.drew (h : Tch M w w') : Tch M w w'.drew := ⟨h.os, h.tape, h.output, h.size, h.block⟩
theorem Tch.bel (h : Tch M w w') {w2 : World} (hb : RowKit.Below w'.heap.size w' w2) : Tch M w w2 := h.more (Tch.of hb)
/-- The block b behind a change elsewhere. -/
theorem Tch.blk (h : Tch M w w') {b : Nat} {o : Obj} (hb : w.heap[b]? = some o) (hn : ¬ M b) : w'.heap[b]? = some o := (h.block b (Array.getElem?_eq_some_iff.1 hb).1 hn).trans hb
theorem Tch.lt (h : Tch M w w') {b : Nat} (hb : b < w.heap.size) : b < w'.heap.size := Nat.lt_of_lt_of_le hb h.size
theorem one_cell {pa : Nat} {a : Value} {t : Nat} (h : w.heap[pa]? = some (.cells #[a] t (0, 0))) : w.cell? ⟨pa, 0, none⟩ = some a ∧ w.frozen? ⟨pa, 0, none⟩ = false := by
  simp [World.cell?, World.frozen?, h]
end

section
variable {α : Type} [Inhabited α] {enc : α → List Value} {et k : Nat} {w : World}
theorem row_cellsK (hk : ∀ x, (enc x).length = k) {base g n cap : Nat} {l : List α} (h : w.ownsRow base et k (.slice (some ⟨g, 0, none⟩) n cap) n (flat enc l)) {i : Nat} (hi : i < l.length) : ∀ c u, (enc l[i]!)[c]? = some u → w.cell? ⟨g, i * k + c, none⟩ = some u := fun c u hu => by
  have hc : c < k := by have := (List.getElem?_eq_some_iff.1 hu).1; rwa [hk] at this
  have := cellsI h (i * k + c) u ((flat_get hk l i c hi hc).trans hu)
  rwa [Nat.zero_add] at this
omit [Inhabited α] in
theorem flat_setc (hk : ∀ x, (enc x).length = k) (c : Nat) (hc : c < k) (x : α) (u : Value) : ∀ (L : List α) (n : Nat) (h : n < L.length), enc x = (enc L[n]).set c u → (flat enc L).set (n * k + c) u = flat enc (L.set n x)
  | [], _, h, _ => absurd h (Nat.not_lt_zero _)
  | y :: r, 0, _, hx => by
    simp only [List.getElem_cons_zero] at hx
    simp only [flat, List.flatMap_cons, Nat.zero_mul, Nat.zero_add, List.set_cons_zero]
    rw [List.set_append_left _ _ (by rw [hk]; exact hc), hx]
  | y :: r, n + 1, h, hx => by
    simp only [List.getElem_cons_succ] at hx
    have ih := flat_setc hk c hc x u r n (by simpa using h) hx
    simp only [flat, List.flatMap_cons, List.set_cons_succ] at ih ⊢
    rw [List.set_append_right _ _ (by rw [hk, Nat.add_mul]; omega), hk, show (n + 1) * k + c - k = n * k + c by rw [Nat.add_mul]; omega, ih]
end
section
variable {w w' : World} {b0 et k n : Nat} {v : Value} {xs : List Value}
theorem row_base (h : w.ownsRow b0 et k v n xs) {g : Nat} (hg : v.ownBlock = some g) : b0 ≤ g := by
  rcases h.2 with ⟨rfl, _⟩ | ⟨g', cap, cur, rfl, hb, hh, _⟩
  · simp [Value.ownBlock] at hg
  · simp only [Value.ownBlock, Option.some.injEq] at hg
    subst hg
    exact hb
/-- A block of another type behind an append onto a row of the call's own. -/
theorem grown_far (h : w.ownsRow b0 et k v n xs) (hg : w.grownBy w' v.ownBlock) {b : Nat} {c : Array Value} {t : Nat} {f : Nat × Nat} (hb : w.heap[b]? = some (.cells c t f)) (ht : t ≠ et) : w'.heap[b]? = some (.cells c t f) :=
  (hg.block b (Array.getElem?_eq_some_iff.1 hb).1 (fun e => by
    obtain ⟨c2, hc⟩ := row_type h e.symm
    exact type_apart hb hc ht rfl)).trans hb
end
/-- A row of entries in an own row: its cells. -/
theorem rowE {w : World} {base et g n cap : Nat} {l : List Hd} (h : w.ownsRow base et 2 (.slice (some ⟨g, 0, none⟩) n cap) n (flat encH l)) {i : Nat} (hi : i < l.length) :
    (w.cell? ⟨g, i * 2, none⟩ = some (.int .i64 l[i]!.1) ∧ w.cell? ⟨g, i * 2 + 1, none⟩ = some (.int .i64 l[i]!.2)) ∧ w.frozen? ⟨g, i * 2, none⟩ = false ∧ w.frozen? ⟨g, i * 2 + 1, none⟩ = false :=
  ⟨⟨row_cellsK lenH h hi 0 _ rfl, row_cellsK lenH h hi 1 _ rfl⟩, h.frozenAt _, h.frozenAt _⟩

/-! ### A heap. -/
/-- At block pa is a heap: its slice is v, its entries, place by place, are L; its blocks are among M. -/
def HpIs (w : World) (M : Nat → Prop) (pa : Nat) (v : Value) (L : List Hd) : Prop :=
  w.heap[pa]? = some (.cells #[v] 51 (0, 0)) ∧ M pa ∧ RowAt encH 35 2 w M v L
def HpAt (w : World) (M : Nat → Prop) (pa : Nat) (L : List Hd) : Prop := ∃ v, HpIs w M pa v L

theorem tHE : (51 : Nat) ≠ 35 := by decide

section
variable {pa : Nat} {L L' : List Hd} {M R : Nat → Prop} {w w' w2 : World} {v v' : Value}
theorem HpIs.at (h : HpIs w M pa v L) : HpAt w M pa L := ⟨v, h⟩
theorem HpIs.mono {M' : Nat → Prop} (h : HpIs w M pa v L) (hM : ∀ b, M b → M' b) : HpIs w M' pa v L := ⟨h.1, hM _ h.2.1, h.2.2.mono hM⟩
theorem HpAt.mono {M' : Nat → Prop} (h : HpAt w M pa L) (hM : ∀ b, M b → M' b) : HpAt w M' pa L := h.imp fun _ q => q.mono hM
theorem HpIs.lt (h : HpIs w M pa v L) : pa < w.heap.size := (Array.getElem?_eq_some_iff.1 h.1).1
theorem HpAt.lt (h : HpAt w M pa L) : pa < w.heap.size := h.choose_spec.lt
theorem HpIs.kept (h : HpIs w R pa v L) (t : Tch M w w') (hd : ∀ b, R b → ¬ M b) : HpIs w' R pa v L :=
  ⟨(t.block pa h.lt (hd pa h.2.1)).trans h.1, h.2.1, h.2.2.kept t hd⟩
theorem HpAt.kept (h : HpAt w R pa L) (t : Tch M w w') (hd : ∀ b, R b → ¬ M b) : HpAt w' R pa L := h.imp fun _ q => q.kept t hd
theorem HpIs.below (h : HpIs w R pa v L) (t : RowKit.Below w.heap.size w w') : HpIs w' R pa v L := ⟨(t.block pa h.lt).trans h.1, h.2.1, h.2.2.below t⟩
theorem HpAt.below (h : HpAt w R pa L) (t : RowKit.Below w.heap.size w w') : HpAt w' R pa L := h.imp fun _ q => q.below t
theorem HpIs.cells (h : HpIs w M pa v L) : w.cell? ⟨pa, 0, none⟩ = some v ∧ w.frozen? ⟨pa, 0, none⟩ = false := one_cell h.1
/-- Among its own two blocks. -/
theorem HpIs.tight (h : HpIs w M pa v L) : HpIs w (fun b => b = pa ∨ v.ownBlock = some b) pa v L ∧ ∀ b, (b = pa ∨ v.ownBlock = some b) → M b :=
  ⟨⟨h.1, .inl rfl, h.2.2.1, fun g hg => .inr hg⟩, fun b e => e.elim (fun e => e ▸ h.2.1) (h.2.2.2 b)⟩
/-- A store into a block that is none of the heap's. -/
theorem HpIs.far (h : HpIs w R pa v L) {p : Addr} (hb : ¬ R p.block) (u : Value) : HpIs (w.setCell p u) R pa v L :=
  h.kept (M := fun b => b = p.block) (Tch.set (M := fun b => b = p.block) w rfl u) (fun b e1 e2 => hb (e2 ▸ e1))

/-- What a walk needs of a heap: its slice's form, its cells, its row. -/
theorem HpAt.open (h : HpAt w M pa L) : ∃ p cap, HpIs w M pa (.slice p L.length cap) L ∧ L.length ≤ cap ∧ cap ≤ 9223372036854775807 ∧ (0 < L.length → ∃ g, p = some ⟨g, 0, none⟩ ∧ g < w.heap.size ∧ g ≠ pa) := by
  obtain ⟨v, h⟩ := h
  obtain ⟨p, cap, rfl, h1, h2, h3⟩ := row_val h.2.2.1
  unfold maxLen at h2
  refine ⟨p, cap, h, h1, by omega, fun q => ?_⟩
  obtain ⟨g, rfl, hg, ho⟩ := h3 q
  obtain ⟨c, hc⟩ := row_type h.2.2.1 ho
  exact ⟨g, rfl, hg, type_apart hc h.1 tHE.symm⟩

/-- The slice is stored. -/
theorem hp_put {a : Value} (h1 : w.heap[pa]? = some (.cells #[a] 51 (0, 0))) (hm : M pa) (hr : RowAt encH 35 2 w M v L) :
    HpIs (w.setCell ⟨pa, 0, none⟩ v) M pa v L ∧ Tch M w (w.setCell ⟨pa, 0, none⟩ v) := by
  have e := heap_setCell_same w pa 0 #[a] 51 v h1
  refine ⟨⟨by simpa using e, hm, ⟨row_keep hr.1 (fun g hg => ?_), hr.2⟩⟩, Tch.set w hm v⟩
  obtain ⟨c, hc⟩ := row_type hr.1 hg
  exact heap_setCell_other w ⟨pa, 0, none⟩ g v (type_apart hc h1 tHE.symm)
/-- A cell of the row is stored. -/
theorem HpIs.cell {g ln cs : Nat} (h : HpIs w M pa (.slice (some ⟨g, 0, none⟩) ln cs) L) (j : Nat) (u : Value) (hS : (flat encH L).set j u = flat encH L') (hl : L'.length = L.length) :
    HpIs (w.setCell ⟨g, j, none⟩ u) M pa (.slice (some ⟨g, 0, none⟩) ln cs) L' ∧ Tch M w (w.setCell ⟨g, j, none⟩ u) := by
  obtain ⟨h1, h2, h3⟩ := h
  obtain ⟨c3, hc3⟩ := row_type h3.1 (g := g) rfl
  have n1 : pa ≠ g := type_apart h1 hc3 tHE
  have hln : ln = L.length := by
    obtain ⟨p, cap, e, _⟩ := row_val h3.1
    simp only [Value.slice.injEq] at e
    exact e.2.1
  subst hln
  have hst := (h3.1.stored j u).1
  refine ⟨⟨(heap_setCell_other w ⟨g, j, none⟩ pa u n1).trans h1, h2, ⟨?_, h3.2⟩⟩, Tch.set w (h3.2 g rfl) u⟩
  rw [hS] at hst
  rw [hl]
  exact hst
/-- A whole entry is stored. -/
theorem HpIs.set {g ln cs : Nat} (h : HpIs w M pa (.slice (some ⟨g, 0, none⟩) ln cs) L) (n : Nat) (hn : n < L.length) (x : Hd) :
    HpIs ((w.setCell ⟨g, n * 2, none⟩ (.int .i64 x.1)).setCell ⟨g, n * 2 + 1, none⟩ (.int .i64 x.2)) M pa (.slice (some ⟨g, 0, none⟩) ln cs) (L.set n x) ∧
      Tch M w ((w.setCell ⟨g, n * 2, none⟩ (.int .i64 x.1)).setCell ⟨g, n * 2 + 1, none⟩ (.int .i64 x.2)) := by
  obtain ⟨k1, t1⟩ := h.cell (n * 2) (.int .i64 x.1) (flat_setc lenH 0 (by decide) (x.1, L[n].2) (.int .i64 x.1) L n hn rfl) (List.length_set ..)
  obtain ⟨k2, t2⟩ := k1.cell (n * 2 + 1) (.int .i64 x.2) (flat_setc lenH 1 (by decide) x (.int .i64 x.2) _ n (by simpa using hn) (by simp [encH])) (List.length_set ..)
  rw [List.set_set] at k2
  exact ⟨k2, t1.more t2⟩
/-- The front of the row takes the row's place. -/
theorem HpIs.front {g ln cs : Nat} (h : HpIs w M pa (.slice (some ⟨g, 0, none⟩) ln cs) L) (j : Nat) (hj : j ≤ L.length) :
    HpIs (w.setCell ⟨pa, 0, none⟩ (.slice (some ⟨g, 0, none⟩) j cs)) M pa (.slice (some ⟨g, 0, none⟩) j cs) (L.take j) ∧ Tch M w (w.setCell ⟨pa, 0, none⟩ (.slice (some ⟨g, 0, none⟩) j cs)) := by
  have hln : ln = L.length := by
    obtain ⟨p, cap, e, _⟩ := row_val h.2.2.1
    simp only [Value.slice.injEq] at e
    exact e.2.1
  subst hln
  refine hp_put h.1 h.2.1 ⟨?_, fun g' hg => h.2.2.2 g' hg⟩
  exact row_front lenH h.2.2.1 rfl j hj
/-- Behind an append onto the row: the heap's block. -/
theorem HpIs.grown (h : HpIs w M pa v L) (hg : w.grownBy w' v.ownBlock) : w'.heap[pa]? = some (.cells #[v] 51 (0, 0)) :=
  blk_grown h.2.2 hg h.1 tHE
/-- A heap that the call has made. -/
theorem hp_made (w : World) : HpIs (w.alloc (.cells #[.slice none 0 0] 51)) (Fresh w (w.alloc (.cells #[.slice none 0 0] 51))) w.heap.size (.slice none 0 0) [] :=
  ⟨heap_alloc_new w _, .inr ⟨Nat.le_refl _, by simp⟩, row_nil _ _ _ _⟩
end

/-! ### A heap of the call's own, from base on, off the blocks Z. -/
def HpO (Z : Nat → Prop) (base : Nat) (w : World) (pa : Nat) (L : List Hd) : Prop :=
  ∃ M, HpAt w M pa L ∧ (∀ b, M b → base ≤ b ∧ ¬ Z b ∧ b < w.heap.size) ∧ (∀ b, Z b → b < w.heap.size) ∧ base ≤ w.heap.size
/-- Below base and at Z nothing has changed. -/
def OffZ (Z : Nat → Prop) (base : Nat) : Nat → Prop := fun b => base ≤ b ∧ ¬ Z b
abbrev NoZ : Nat → Prop := fun _ => False

section
variable {Z Z' : Nat → Prop} {base pa : Nat} {L L' : List Hd} {w w' : World}
theorem OffZ.below (h : Tch (OffZ Z base) w w') (hb : base ≤ w.heap.size) : RowKit.Below base w w' := Tch.below h (fun _ e => e.1) hb
theorem HpO.lo (h : HpO Z base w pa L) : base ≤ w.heap.size := h.choose_spec.2.2.2
theorem HpO.zlt (h : HpO Z base w pa L) : ∀ b, Z b → b < w.heap.size := h.choose_spec.2.2.1
theorem HpO.below (h : HpO Z base w pa L) (t : RowKit.Below w.heap.size w w') : HpO Z base w' pa L := by
  obtain ⟨M, h1, h2, h3, h4⟩ := h
  exact ⟨M, h1.below t, fun b e => ⟨(h2 b e).1, (h2 b e).2.1, Nat.lt_of_lt_of_le (h2 b e).2.2 t.size⟩, fun b e => Nat.lt_of_lt_of_le (h3 b e) t.size, Nat.le_trans h4 t.size⟩
/-- Behind a change of Z and of what is new; what it keeps beside it from then on. -/
theorem HpO.turn (h : HpO Z base w pa L) (t : Tch Z w w') (hZ : ∀ b, Z' b → (Z b ∨ b < base ∨ w.heap.size ≤ b) ∧ b < w'.heap.size) : HpO Z' base w' pa L := by
  obtain ⟨M, h1, h2, h3, h4⟩ := h
  refine ⟨M, h1.kept t (fun b e => (h2 b e).2.1), fun b e => ⟨(h2 b e).1, fun z => ?_, t.lt (h2 b e).2.2⟩, fun b e => (hZ b e).2, Nat.le_trans h4 t.size⟩
  have h6 := h2 b e
  rcases (hZ b z).1 with c | c | c
  · exact h6.2.1 c
  · omega
  · omega
theorem HpO.new (hp : HpAt w' (Fresh w w') pa L) (hb : base ≤ w.heap.size) (hs : w.heap.size ≤ w'.heap.size) (hZ : ∀ b, Z b → b < w.heap.size) : HpO Z base w' pa L :=
  ⟨_, hp, fun b e => e.elim (fun e => e.elim) (fun e => ⟨by omega, fun z => by have := hZ b z; omega, e.2⟩), fun b e => Nat.lt_of_lt_of_le (hZ b e) hs, Nat.le_trans hb hs⟩
/-- A call that changes the heap. -/
theorem HpO.ask {P : Ending → Prop} {fn : FuncId} {args : Array Value} (h : HpO Z base w pa L)
    (hc : ∀ M, HpAt w M pa L → Calls Tryd.prog fn args w fun e w' => P e ∧ HpAt w' (New M w w') pa L' ∧ Tch M w w') :
    Calls Tryd.prog fn args w fun e w' => P e ∧ HpO Z base w' pa L' ∧ Tch (OffZ Z base) w w' := by
  obtain ⟨M, h1, h2, h3, h4⟩ := h
  refine (hc M h1).mono fun e w' ⟨he, hT, ht⟩ => ⟨he, ⟨_, hT, fun b e => ?_, fun b e => ht.lt (h3 b e), Nat.le_trans h4 ht.size⟩, ht.mono fun b e => ⟨(h2 b e).1, (h2 b e).2.1⟩⟩
  rcases e with e | e
  · exact ⟨(h2 b e).1, (h2 b e).2.1, ht.lt (h2 b e).2.2⟩
  · exact ⟨by omega, fun c => by have := h3 b c; omega, e.2⟩
/-- A question. -/
theorem HpO.read {P : Ending → World → Prop} {fn : FuncId} {args : Array Value} (h : HpO Z base w pa L) (hc : ∀ M, HpAt w M pa L → Calls Tryd.prog fn args w P) : Calls Tryd.prog fn args w P := hc _ h.choose_spec.1
end
end Go.Proofs.YtaceahjomhgccaaDoor
