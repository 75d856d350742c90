/-
  append with its own block named; what a call leaves alone (Tch); rows of the call's own among blocks M, of elements of k cells.
-/
import Derived.Test.YtklpemcchfmdjaaDoorAp
import Derived.IntWalk
namespace Go.Proofs.YtklpemcchfmdjaaDoor
set_option linter.unusedSimpArgs false
set_option linter.unusedVariables false
open Go.RowKit Go.Sort Go.Lib Go.Shelf

/-! ### append, with the block that the new slice lies in. -/
section
variable {α : Type} {enc : α → List Value} {st et k : Nat} {z : Value} {bytes : Nat}

theorem app_run2 (A : Ap enc st et k z bytes) (ty base : Nat) {w : World} {v vx : Value} {n : Nat} {la lb : List α} (hown : w.ownsRow base et k v n (flat enc la)) (hn : n = la.length) (hX : Sl enc w vx lb) (hlen : la.length + lb.length ≤ 1000000) (hbase : base ≤ w.heap.size) :
    ∃ v' w', (Builtin.append_ #[st, st] ty #[v, vx]).run Tryd.prog w = .ok v' w' ∧ w'.ownsRow base et k v' (la ++ lb).length (flat enc (la ++ lb)) ∧ w.grownBy w' v.ownBlock ∧ (v'.ownBlock = v.ownBlock ∨ v'.ownBlock = some w.heap.size) ∧ (lb = [] → v' = v) := by
  subst hn
  obtain ⟨i, hi, hz, hs, hb⟩ := A.hi
  obtain ⟨p, c, rfl, h1, h2, hX⟩ := hX
  by_cases hl : lb = []
  · subst hl
    refine ⟨v, w, ?_, by simpa using hown, ⟨rfl, rfl, rfl, Nat.le_refl _, fun _ _ _ => rfl⟩, .inl rfl, fun _ => rfl⟩
    have hc : ∀ W, (Builtin.firstCells k 0 (.slice p 0 c)).run Tryd.prog W = .ok #[] W := fun W => by
      cases p <;> simp [Builtin.firstCells, loadCells, loadCellsFrom]
    rcases hown.2 with ⟨rfl, h0⟩ | ⟨g, cap, cur, rfl, _, _, hnc, _⟩
    · exact run_append_nothing w st st ty et i A.ht hi none 0 0 (Nat.le_refl _) _ ⟨.inl ⟨et, A.ht⟩, fun w' => by simp [Builtin.lenOf], by rw [hs]; exact hc w, by rw [hs]; exact hc w.drew, by simp, fun u hu => by cases hu⟩
    · exact run_append_nothing w st st ty et i A.ht hi _ _ _ hnc _ ⟨.inl ⟨et, A.ht⟩, fun w' => by simp [Builtin.lenOf], by rw [hs]; exact hc w, by rw [hs]; exact hc w.drew, by simp, fun u hu => by cases hu⟩
  · have hpos : 0 < lb.length := List.length_pos_iff.2 hl
    obtain ⟨g, o, rfl, hg, hcells⟩ := hX hpos
    have hbytes : (la.length + lb.length) * bytes ≤ 140737488355328 := Nat.le_trans (Nat.mul_le_mul hlen A.by32) (by decide)
    obtain ⟨v', w', hr, ho, hgr, hnil, hat⟩ := run_append_own_at (P := Tryd.prog) w base st ty et i z k bytes A.ht hi hz hs hb A.zs A.k0 v la.length (flat enc la) hown ⟨g, o, none⟩ lb.length c (flat enc lb) (flat_len A.hk lb)
      (fun j u hu => by rw [Addr.add_lit]; exact hcells j u hu) (flat_one A.h1 lb) (by unfold maxLen; omega) hbytes hbase
    exact ⟨v', w', hr, by rw [flat_append, List.length_append]; exact ho, hgr, hat, fun h => absurd h hl⟩

theorem wp_app2 (A : Ap enc st et k z bytes) {w : World} {o : Oper} {a : Act} {K : Act → World → Prop} {Q : Exit → Act → World → Prop} (s x : Operand) (ho : o.op = .call { callee := .builtin .append, args := #[s, x], argTypes := #[st, st] }) (base : Nat)
    {v vx : Value} {n : Nat} {la lb : List α} (hs : a.eval s = v) (hx : a.eval x = vx) (hown : w.ownsRow base et k v n (flat enc la)) (hn : n = la.length) (hX : Sl enc w vx lb) (hlen : la.length + lb.length ≤ 1000000) (hbase : base ≤ w.heap.size)
    (h : ∀ v' w', w'.ownsRow base et k v' (la ++ lb).length (flat enc (la ++ lb)) → w.grownBy w' v.ownBlock → (v'.ownBlock = v.ownBlock ∨ v'.ownBlock = some w.heap.size) → (lb = [] → v' = v) → K (a.put o.dst v') w') : o.wp Tryd.prog a w K Q := by
  obtain ⟨v', w', hr, h2, h3, h4, h5⟩ := app_run2 A o.type base hown hn hX hlen hbase
  unfold Oper.wp execOp
  simp only [ho, resolve, invoke, builtin, Sem.run_bind, Sem.run_pure, Result.andThen_ok, List.map_toArray, List.map_cons, List.map_nil, hs, hx, hr]
  exact h v' w' h2 h3 h4 h5

/-- At the list of a plain region's operations. -/
theorem wpl_app2 (A : Ap enc st et k z bytes) {w : World} {ops : Array Oper} {rest : List Oper} {o : Oper} {a : Act} {Q : Exit → Act → World → Prop} (hgd : o.guard = none) (s x : Operand) (ho : o.op = .call { callee := .builtin .append, args := #[s, x], argTypes := #[st, st] }) (base : Nat)
    {v vx : Value} {n : Nat} {la lb : List α} (hs : a.eval s = v) (hx : a.eval x = vx) (hown : w.ownsRow base et k v n (flat enc la)) (hn : n = la.length) (hX : Sl enc w vx lb) (hlen : la.length + lb.length ≤ 1000000) (hbase : base ≤ w.heap.size)
    (h : ∀ v' w', w'.ownsRow base et k v' (la ++ lb).length (flat enc (la ++ lb)) → w.grownBy w' v.ownBlock → (v'.ownBlock = v.ownBlock ∨ v'.ownBlock = some w.heap.size) → (lb = [] → v' = v) → wpList Tryd.prog ops Q rest (a.put o.dst v') w') : wpList Tryd.prog ops Q (o :: rest) a w :=
  wpList_plain hgd fun _ hK => wp_app2 A s x ho base hs hx hown hn hX hlen hbase fun v' w' h2 h3 h4 h5 => hK _ _ (h v' w' h2 h3 h4 h5)

/-- At a step of a region that draws its order. -/
theorem step_app2 (A : Ap enc st et k z bytes) {w : World} {ops : Array Oper} {o : Oper} {a : Act} {K : Act → World → Prop} {Q : Exit → Act → World → Prop} {E : Prop} (hgd : o.guard = none) (s x : Operand) (ho : o.op = .call { callee := .builtin .append, args := #[s, x], argTypes := #[st, st] }) (base : Nat)
    {v vx : Value} {n : Nat} {la lb : List α} (hs : a.eval s = v) (hx : a.eval x = vx) (hown : w.ownsRow base et k v n (flat enc la)) (hn : n = la.length) (hX : Sl enc w vx lb) (hlen : la.length + lb.length ≤ 1000000) (hbase : base ≤ w.heap.size)
    (h : ∀ v' w', w'.ownsRow base et k v' (la ++ lb).length (flat enc (la ++ lb)) → w.grownBy w' v.ownBlock → (v'.ownBlock = v.ownBlock ∨ v'.ownBlock = some w.heap.size) → (lb = [] → v' = v) → K (a.put o.dst v') w') :
    if Region.wanted o (yielded ops a.tmps) = true then Oper.wp Tryd.prog o a w K Q else E := by
  have hw : Region.wanted o (yielded ops a.tmps) = true := by simp [Region.wanted, hgd]
  rw [if_pos hw]
  exact wp_app2 A s x ho base hs hx hown hn hX hlen hbase h
end

/-! ### What a call leaves alone. -/
/-- Of the blocks that were there only those of M have changed. -/
structure Tch (M : Nat → Prop) (w w' : World) : Prop where
  os : w'.os = w.os
  tape : w'.tape = w.tape
  output : w'.output = w.output
  size : w.heap.size ≤ w'.heap.size
  block : ∀ k, k < w.heap.size → ¬ M k → w'.heap[k]? = w.heap[k]?
/-- The blocks of M, and those that are new. -/
def New (M : Nat → Prop) (w w' : World) : Nat → Prop := fun b => M b ∨ (w.heap.size ≤ b ∧ b < w'.heap.size)

variable {M R : Nat → Prop} {w w' w2 : World}

theorem Tch.refl (M : Nat → Prop) (w : World) : Tch M w w := ⟨rfl, rfl, rfl, Nat.le_refl _, fun _ _ _ => rfl⟩
theorem Tch.trans (h : Tch M w w') (k : Tch (New M w w') w' w2) : Tch M w w2 :=
  ⟨k.os.trans h.os, k.tape.trans h.tape, k.output.trans h.output, Nat.le_trans h.size k.size, fun i hi hn => (k.block i (Nat.lt_of_lt_of_le hi h.size) (fun e => e.elim hn (fun e => by omega))).trans (h.block i hi hn)⟩
theorem Tch.more (h : Tch M w w') (k : Tch M w' w2) : Tch M w w2 :=
  ⟨k.os.trans h.os, k.tape.trans h.tape, k.output.trans h.output, Nat.le_trans h.size k.size, fun i hi hn => (k.block i (Nat.lt_of_lt_of_le hi h.size) hn).trans (h.block i hi hn)⟩
theorem Tch.mono (h : Tch M w w') {M' : Nat → Prop} (hM : ∀ b, M b → M' b) : Tch M' w w' := ⟨h.os, h.tape, h.output, h.size, fun k hk hn => h.block k hk (fun e => hn (hM k e))⟩
theorem Tch.of (h : RowKit.Below w.heap.size w w') : Tch M w w' := ⟨h.os, h.tape, h.output, h.size, fun k hk _ => h.block k hk⟩
theorem Tch.gr (h : Gr w w') : Tch M w w' := Tch.of h.below
theorem Tch.grown {v : Value} (h : w.grownBy w' v.ownBlock) (hv : ∀ g, v.ownBlock = some g → M g) : Tch M w w' :=
  ⟨h.os, h.tape, h.output, h.size, fun k hk hn => h.block k hk (fun e => hn (hv k e.symm))⟩
theorem Tch.below (h : Tch M w w') {B : Nat} (hM : ∀ b, M b → B ≤ b) (hB : B ≤ w.heap.size) : RowKit.Below B w w' :=
  ⟨h.os, h.tape, h.output, h.size, fun k hk => h.block k (by omega) (fun e => by have := hM k e; omega)⟩
theorem Tch.set (w : World) {p : Addr} (hp : M p.block) (u : Value) : Tch M w (w.setCell p u) :=
  ⟨rfl, rfl, rfl, by simp, fun k _ hn => heap_setCell_other w p k u (fun e => hn (e ▸ hp))⟩
theorem Tch.cell (h : Tch M w w') {b o : Nat} {v : Value} (hl : b < w.heap.size) (hn : ¬ M b) (hc : w.cell? ⟨b, o, none⟩ = some v) : w'.cell? ⟨b, o, none⟩ = some v :=
  (World.cell?_of_block (w := w) (a := ⟨b, o, none⟩) (h.block b hl hn)).trans hc
theorem New.mono (h : w'.heap.size ≤ w2.heap.size) : ∀ b, New M w w' b → New M w w2 b := fun b e => e.elim .inl (fun e => .inr ⟨e.1, by omega⟩)
theorem New.step (h : w.heap.size ≤ w'.heap.size) (h2 : w'.heap.size ≤ w2.heap.size) : ∀ b, New (New M w w') w' w2 b → New M w w2 b := fun b e => by
  rcases e with (e | e) | e
  · exact .inl e
  · exact .inr ⟨e.1, by omega⟩
  · exact .inr ⟨by omega, e.2⟩

/-! ### A row of one's own, among the blocks M. -/
/-- A slice value that owns the list l, in a block of M (or is nil). -/
def RowAt {α : Type} (enc : α → List Value) (et k : Nat) (w : World) (M : Nat → Prop) (v : Value) (l : List α) : Prop :=
  w.ownsRow 0 et k v l.length (flat enc l) ∧ ∀ g, v.ownBlock = some g → M g

section
variable {α : Type} {enc : α → List Value} {et k : Nat} {v : Value} {l : List α}
theorem RowAt.mono {M' : Nat → Prop} (h : RowAt enc et k w M v l) (hM : ∀ b, M b → M' b) : RowAt enc et k w M' v l := ⟨h.1, fun g hg => hM g (h.2 g hg)⟩
theorem row_lt {base n : Nat} {xs : List Value} (h : w.ownsRow base et k v n xs) {g : Nat} (hg : v.ownBlock = some g) : g < w.heap.size := by
  rcases h.2 with ⟨rfl, _⟩ | ⟨g', cap, cur, rfl, hb, hh, _⟩
  · simp [Value.ownBlock] at hg
  · simp only [Value.ownBlock, Option.some.injEq] at hg
    subst hg
    exact (Array.getElem?_eq_some_iff.1 hh).1
/-- A row stays while its block does. -/
theorem row_keep {base n : Nat} {xs : List Value} (h : w.ownsRow base et k v n xs) (hk : ∀ g, v.ownBlock = some g → w'.heap[g]? = w.heap[g]?) : w'.ownsRow base et k v n xs := by
  refine ⟨h.1, ?_⟩
  rcases h.2 with h | ⟨g, cap, cur, rfl, hb, hh, r⟩
  · exact .inl h
  · exact .inr ⟨g, cap, cur, rfl, hb, (hk g rfl).trans hh, r⟩
theorem RowAt.kept (h : RowAt enc et k w R v l) (t : Tch M w w') (hd : ∀ b, R b → ¬ M b) : RowAt enc et k w' R v l :=
  ⟨row_keep h.1 (fun g hg => t.block g (row_lt h.1 hg) (hd g (h.2 g hg))), h.2⟩
theorem RowAt.below (h : RowAt enc et k w R v l) (t : RowKit.Below w.heap.size w w') : RowAt enc et k w' R v l :=
  ⟨row_keep h.1 (fun g hg => t.block g (row_lt h.1 hg)), h.2⟩
/-- The value's form. -/
theorem row_val {base n : Nat} {xs : List Value} (h : w.ownsRow base et k v n xs) : ∃ p cap, v = .slice p n cap ∧ n ≤ cap ∧ cap ≤ maxLen ∧ (0 < n → ∃ g, p = some ⟨g, 0, none⟩ ∧ g < w.heap.size ∧ v.ownBlock = some g) := by
  rcases h.2 with ⟨rfl, rfl⟩ | ⟨g, cap, cur, rfl, hb, hh, h1, h2, _⟩
  · exact ⟨none, 0, rfl, Nat.le_refl _, Nat.zero_le _, fun h => absurd h (Nat.lt_irrefl _)⟩
  · exact ⟨_, cap, rfl, h1, h2, fun _ => ⟨g, rfl, (Array.getElem?_eq_some_iff.1 hh).1, rfl⟩⟩
/-- A row's block is of cells of its type. -/
theorem row_type {base n : Nat} {xs : List Value} (h : w.ownsRow base et k v n xs) {g : Nat} (hg : v.ownBlock = some g) : ∃ cs, w.heap[g]? = some (.cells cs et (0, 0)) := by
  rcases h.2 with ⟨rfl, _⟩ | ⟨g', cap, cur, rfl, hb, hh, _⟩
  · simp [Value.ownBlock] at hg
  · simp only [Value.ownBlock, Option.some.injEq] at hg
    subst hg
    exact ⟨cur, hh⟩
theorem RowAt.sl [Inhabited α] (hk : ∀ x, (enc x).length = k) (h : RowAt enc et k w M v l) : Sl enc w v l := row_sl hk h.1 rfl
theorem row_empty (w : World) (et k : Nat) (M : Nat → Prop) (hM : M w.heap.size) : RowAt (α := α) enc et k (w.alloc (.cells #[] et)) M (.slice (some ⟨w.heap.size, 0, none⟩) 0 0) [] :=
  ⟨World.ownsRow_lit w #[] 0 (Nat.zero_le _) (Nat.zero_le _) (by simp), fun g hg => by simp only [Value.ownBlock, Option.some.injEq] at hg; exact hg ▸ hM⟩
theorem row_nil (w : World) (et k : Nat) (M : Nat → Prop) : RowAt (α := α) enc et k w M (.slice none 0 0) [] :=
  ⟨⟨by simp [flat], .inl ⟨rfl, rfl⟩⟩, fun g hg => by simp [Value.ownBlock] at hg⟩
end


section
variable {T pa : Nat} {M R : Nat → Prop} {w w' : World}
/-- The two cells of a block that is known whole. -/
theorem two_cells {a b : Value} {t : Nat} (h : w.heap[pa]? = some (.cells #[a, b] t (0, 0))) : w.cell? ⟨pa, 0, none⟩ = some a ∧ w.cell? ⟨pa, 1, none⟩ = some b ∧ w.frozen? ⟨pa, 0, none⟩ = false ∧ w.frozen? ⟨pa, 1, none⟩ = false := by
  simp [World.cell?, World.frozen?, h]
theorem type_apart {a b : Nat} {ca cb : Array Value} {ta tb : Nat} {fa fb : Nat × Nat} (ha : w.heap[a]? = some (.cells ca ta fa)) (hb : w.heap[b]? = some (.cells cb tb fb)) (ht : ta ≠ tb) : a ≠ b := fun e => by
  rw [e, hb] at ha
  simp at ha
  exact ht ha.2.1.symm
/-- A block behind a store elsewhere. -/
theorem blk_far {b : Nat} {o : Obj} (h : w.heap[b]? = some o) {p : Addr} (hp : b ≠ p.block) (u : Value) : (w.setCell p u).heap[b]? = some o := (heap_setCell_other w p b u hp).trans h
theorem blk_below {b : Nat} {o : Obj} (h : w.heap[b]? = some o) (t : RowKit.Below w.heap.size w w') : w'.heap[b]? = some o := (t.block b (Array.getElem?_eq_some_iff.1 h).1).trans h
/-- A block of another type behind an append onto a row. -/
theorem blk_grown {α : Type} {enc : α → List Value} {et k : Nat} {v : Value} {l : List α} (h : RowAt enc et k w M v l) (hg : w.grownBy w' v.ownBlock) {b : Nat} {c : Array Value} {t : Nat} {f : Nat × Nat} (hb : w.heap[b]? = some (.cells c t f)) (ht : t ≠ et) : w'.heap[b]? = some (.cells c t f) :=
  (hg.block b (Array.getElem?_eq_some_iff.1 hb).1 (fun e => by
    obtain ⟨c2, hc⟩ := row_type h.1 e.symm
    exact type_apart hb hc ht rfl)).trans hb
/-- Behind an append onto a row of M. -/
theorem row_grown {α : Type} {enc : α → List Value} {et k : Nat} {v v' : Value} {l' : List α} (hv : ∀ g, v.ownBlock = some g → M g) (hown : w'.ownsRow 0 et k v' l'.length (flat enc l')) (hg : w.grownBy w' v.ownBlock) (hat : v'.ownBlock = v.ownBlock ∨ v'.ownBlock = some w.heap.size) :
    RowAt enc et k w' (New M w w') v' l' ∧ Tch M w w' := by
  refine ⟨⟨hown, fun g e => ?_⟩, Tch.grown hg hv⟩
  rcases hat with h | h
  · exact .inl (hv g (by rw [← h]; exact e))
  · rw [h] at e
    simp only [Option.some.injEq] at e
    exact .inr ⟨by omega, row_lt hown (by rw [h, e])⟩
end

/-- An index out of any number: int(uint(n) % uint(len)). -/
theorem idx_any (n : Int) (l : Nat) (h0 : 0 < l) (h1 : l ≤ 9223372036854775807) : ∃ m : Nat, m < l ∧ wrap64 ((IntKind.u64.wrap n).tmod (l : Int)) = (m : Int) := by
  have hu : 0 ≤ IntKind.u64.wrap n := by
    unfold IntKind.wrap
    simp [IntKind.signed, IntKind.bits]
    omega
  have e : (IntKind.u64.wrap n).tmod (l : Int) = IntKind.u64.wrap n % (l : Int) := Int.tmod_eq_emod_of_nonneg hu
  have h2 : 0 ≤ IntKind.u64.wrap n % (l : Int) := Int.emod_nonneg _ (by omega)
  have h3 : IntKind.u64.wrap n % (l : Int) < l := Int.emod_lt_of_pos _ (by omega)
  refine ⟨(IntKind.u64.wrap n % (l : Int)).toNat, by omega, ?_⟩
  rw [e, IntWalk.wrap64_in _ ⟨by omega, by omega⟩]
  omega

/-! ### Elements of one cell. -/
section
variable {α : Type} {enc : α → List Value} {c : α → Value}
theorem flat1 (he : ∀ x, enc x = [c x]) (l : List α) : flat enc l = l.map c := by
  induction l with
  | nil => rfl
  | cons x r ih => simp only [flat, List.flatMap_cons] at ih ⊢; rw [ih, he]; rfl
theorem flat1_set (he : ∀ x, enc x = [c x]) (l : List α) (j : Nat) (x : α) : (flat enc l).set j (c x) = flat enc (l.set j x) := by
  rw [flat1 he, flat1 he, List.map_set]
theorem flat1_get [Inhabited α] (he : ∀ x, enc x = [c x]) (l : List α) (j : Nat) (h : j < l.length) : (flat enc l)[j]? = some (c l[j]!) := by
  rw [flat1 he, List.getElem?_map, List.getElem?_eq_getElem h, getElem!_pos l j h]; rfl
/-- A cell of a row of one's own. -/
theorem row_cell1 [Inhabited α] (he : ∀ x, enc x = [c x]) {w : World} {base et g n cap : Nat} {l : List α} (h : w.ownsRow base et 1 (.slice (some ⟨g, 0, none⟩) n cap) n (flat enc l)) (j : Nat) (hj : j < l.length) : w.cell? ⟨g, j, none⟩ = some (c l[j]!) := by
  have := cellsI h j _ (flat1_get he l j hj)
  rwa [Nat.zero_add] at this
/-- A cell of a slice that holds a list. -/
theorem sl_cell1 [Inhabited α] (he : ∀ x, enc x = [c x]) {w : World} {l : List α} {g o : Nat} (h : ∀ j u, (flat enc l)[j]? = some u → w.cell? ⟨g, o + j, none⟩ = some u) {j : Nat} (hj : j < l.length) : w.cell? ⟨g, o + j, none⟩ = some (c l[j]!) := h j _ (flat1_get he l j hj)
end
/-- The front of a row. -/
theorem row_front {α : Type} {enc : α → List Value} {k : Nat} (hk : ∀ x, (enc x).length = k) {w : World} {base et g n cap : Nat} {l : List α} (h : w.ownsRow base et k (.slice (some ⟨g, 0, none⟩) n cap) n (flat enc l)) (hn : n = l.length) (j : Nat) (hj : j ≤ n) :
    w.ownsRow base et k (.slice (some ⟨g, 0, none⟩) j cap) (l.take j).length (flat enc (l.take j)) := by
  have e : (l.take j).length = j := by simp; omega
  rw [e]
  rcases h.2 with ⟨h', _⟩ | ⟨g', cap', cur, e', hb, hh, hc, hm, hs, ht⟩
  · simp at h'
  · simp only [Value.slice.injEq, Option.some.injEq, Addr.mk.injEq, and_true, true_and] at e'
    obtain ⟨rfl, rfl⟩ := e'
    refine ⟨by rw [flat_len hk, e], .inr ⟨g, cap, cur, rfl, hb, hh, by omega, hm, hs, ?_⟩⟩
    rw [← flat_take hk, ← ht, List.take_take, Nat.min_eq_left (Nat.mul_le_mul_right k hj)]
theorem keepA {W0 w1 : World} (h : RowKit.Below W0.heap.size W0 w1 ∧ ∀ b o, b < W0.heap.size → w1.cell? ⟨b, o, none⟩ = W0.cell? ⟨b, o, none⟩) (o1 : Obj) :
    RowKit.Below W0.heap.size W0 (w1.alloc o1) ∧ ∀ b o, b < W0.heap.size → (w1.alloc o1).cell? ⟨b, o, none⟩ = W0.cell? ⟨b, o, none⟩ :=
  ⟨Ba h.1 o1, fun b o hl => ((Ba (Below.refl _ w1) o1).cell (p := ⟨b, o, none⟩) (Bl h.1 hl)).trans (h.2 b o hl)⟩
/-- The blocks that are new. -/
abbrev Fresh (w w' : World) : Nat → Prop := New (fun _ => False) w w'
theorem row_fresh {α : Type} {enc : α → List Value} {et k : Nat} {w w1 : World} {v : Value} {l : List α} (h : w1.ownsRow w.heap.size et k v l.length (flat enc l)) : RowAt enc et k w1 (Fresh w w1) v l :=
  ⟨row_mono h (Nat.zero_le _), fun g hg => .inr ⟨(h.lt g hg).1, (h.lt g hg).2⟩⟩
end Go.Proofs.YtklpemcchfmdjaaDoor
