/-
  Columns of handles (two cells) and of components (three): cells of rows, stores of whole things; what a call leaves alone.
-/
import Derived.Test.YtknfmjjlfhfocaaDoorCm
import Derived.Test.YtknfmjjlfhfocaaDoorVk
namespace Go.Proofs.YtknfmjjlfhfocaaDoor
set_option linter.unusedSimpArgs false
set_option linter.unusedVariables false
open Go.RowKit Go.Sort Go.Lib Go.Shelf

theorem apH : Ap encH 65 38 2 (.agg #[.int .i64 0, .int .i64 0]) 16 :=
  ⟨Tryd.underlying65, info_parts (by kernel_rfl), by decide, by decide, by decide, lenH, oneH⟩
def aggH (x : Hd) : Value := .agg #[.int .i64 x.1, .int .i64 x.2]

/-- What Take of place n leaves: the last thing takes its place. -/
def takeC {α : Type} [Inhabited α] (L : List α) (n : Nat) : List α := (L.set n L[L.length - 1]!).take (L.length - 1)
theorem takeC_len {α : Type} [Inhabited α] (L : List α) (n : Nat) : (takeC L n).length = L.length - 1 := by simp [takeC]
theorem takeC_eq {α : Type} [Inhabited α] (L : List α) (n q : Nat) (x : α) (hq : L.length = q + 1) : ((L.set n L[q]!).set q x).take q = takeC L n := by
  unfold takeC
  rw [hq, Nat.add_sub_cancel, List.take_set_of_le (Nat.le_refl _)]
theorem takeC_get {α : Type} [Inhabited α] (L : List α) (n k : Nat) (hk : k < L.length - 1) : (takeC L n)[k]! = if k = n then L[L.length - 1]! else L[k]! := by
  unfold takeC
  rw [getElem!_pos _ _ (by simp; omega), List.getElem_take, List.getElem_set]
  by_cases h : n = k
  · rw [if_pos h, if_pos h.symm]
  · rw [if_neg h, if_neg (fun e => h e.symm), getElem!_pos L k (by omega)]
theorem takeC_map {α β : Type} [Inhabited α] [Inhabited β] (f : α → β) (L : List α) (n : Nat) (hn : n < L.length) : takeC (L.map f) n = (takeC L n).map f := by
  unfold takeC
  rw [List.length_map, List.map_take, List.map_set]
  congr 2
  rw [getElem!_pos (L.map f) _ (by simp; omega), getElem!_pos L _ (by omega), List.getElem_map]

section
variable {M R : Nat → Prop} {w w' : World}
theorem Tch.fresh (h : Tch M w w') {p : Addr} (hp : w.heap.size ≤ p.block) (u : Value) : Tch M w (w'.setCell p u) :=
  ⟨h.os, h.tape, h.output, by simpa using h.size, fun k hk hn => (heap_setCell_other w' p k u (by omega)).trans (h.block k hk hn)⟩
theorem Tch.alloc (h : Tch M w w') (o : Obj) : Tch M w (w'.alloc o) := h.more (Tch.of (Ba (Below.refl _ _) o))
theorem Tch.drew (h : Tch M w w') : Tch M w w'.drew := ⟨h.os, h.tape, h.output, h.size, h.block⟩
theorem Tch.bel (h : Tch M w w') {w2 : World} (hb : RowKit.Below w'.heap.size w' w2) : Tch M w w2 := h.more (Tch.of hb)
/-- The block b behind a change elsewhere. -/
theorem Tch.blk (h : Tch M w w') {b : Nat} {o : Obj} (hb : w.heap[b]? = some o) (hn : ¬ M b) : w'.heap[b]? = some o := (h.block b (Array.getElem?_eq_some_iff.1 hb).1 hn).trans hb
theorem three_cells {pa : Nat} {a b c : Value} {t : Nat} (h : w.heap[pa]? = some (.cells #[a, b, c] t (0, 0))) : (w.cell? ⟨pa, 0, none⟩ = some a ∧ w.cell? ⟨pa, 1, none⟩ = some b ∧ w.cell? ⟨pa, 2, none⟩ = some c) ∧ w.frozen? ⟨pa, 0, none⟩ = false ∧ w.frozen? ⟨pa, 1, none⟩ = false ∧ w.frozen? ⟨pa, 2, none⟩ = false := by
  simp [World.cell?, World.frozen?, h]
end

section
variable {α : Type} [Inhabited α] {enc : α → List Value} {et k T pa : Nat} {L : List α} {m : Int} {M : Nat → Prop} {w : World}
theorem row_cellsK (hk : ∀ x, (enc x).length = k) {base g n cap : Nat} {l : List α} (h : w.ownsRow base et k (.slice (some ⟨g, 0, none⟩) n cap) n (flat enc l)) {i : Nat} (hi : i < l.length) : ∀ c u, (enc l[i]!)[c]? = some u → w.cell? ⟨g, i * k + c, none⟩ = some u := fun c u hu => by
  have hc : c < k := by have := (List.getElem?_eq_some_iff.1 hu).1; rwa [hk] at this
  have := cellsI h (i * k + c) u ((flat_get hk l i c hi hc).trans hu)
  rwa [Nat.zero_add] at this
omit [Inhabited α] in
theorem flat_setc (hk : ∀ x, (enc x).length = k) (c : Nat) (hc : c < k) (x : α) (u : Value) : ∀ (L : List α) (n : Nat) (h : n < L.length), enc x = (enc L[n]).set c u → (flat enc L).set (n * k + c) u = flat enc (L.set n x)
  | [], _, h, _ => absurd h (Nat.not_lt_zero _)
  | y :: r, 0, _, hx => by
    simp only [List.getElem_cons_zero] at hx
    simp only [flat, List.flatMap_cons, Nat.zero_mul, Nat.zero_add, List.set_cons_zero]
    rw [List.set_append_left _ _ (by rw [hk]; exact hc), hx]
  | y :: r, n + 1, h, hx => by
    simp only [List.getElem_cons_succ] at hx
    have ih := flat_setc hk c hc x u r n (by simpa using h) hx
    simp only [flat, List.flatMap_cons, List.set_cons_succ] at ih ⊢
    rw [List.set_append_right _ _ (by rw [hk, Nat.add_mul]; omega), hk, show (n + 1) * k + c - k = n * k + c by rw [Nat.add_mul]; omega, ih]
omit [Inhabited α] in
/-- Among its own two blocks. -/
theorem ColIs.tight {v : Value} (h : ColIs enc et k T w M pa v L m) : ColIs enc et k T w (fun b => b = pa ∨ v.ownBlock = some b) pa v L m ∧ ∀ b, (b = pa ∨ v.ownBlock = some b) → M b :=
  ⟨⟨h.1, .inl rfl, h.2.2.1, fun g hg => .inr hg⟩, fun b e => e.elim (fun e => e ▸ h.2.1) (h.2.2.2 b)⟩
end

section
variable {α : Type} {enc : α → List Value} {et k T pa : Nat} {L : List α} {m : Int} {R : Nat → Prop} {w w0 : World} {v : Value}
/-- A store into a block that is none of the column's. -/
theorem ColIs.far (h : ColIs enc et k T w R pa v L m) {p : Addr} (hb : ¬ R p.block) (u : Value) : ColIs enc et k T (w.setCell p u) R pa v L m :=
  h.kept (M := fun b => b = p.block) (Tch.set (M := fun b => b = p.block) w rfl u) (fun b e1 e2 => hb (e2 ▸ e1))
theorem ColIs.far2 (h : ColIs enc et k T w R pa v L m) (b : Nat) (hb : ¬ R b) (u1 u2 : Value) : ColIs enc et k T ((w.setCell ⟨b, 0, none⟩ u1).setCell ⟨b, 1, none⟩ u2) R pa v L m := (h.far (p := ⟨b, 0, none⟩) hb u1).far (p := ⟨b, 1, none⟩) hb u2
theorem ColIs.far3 (h : ColIs enc et k T w R pa v L m) (b : Nat) (hb : ¬ R b) (u1 u2 u3 : Value) : ColIs enc et k T (((w.setCell ⟨b, 0, none⟩ u1).setCell ⟨b, 1, none⟩ u2).setCell ⟨b, 2, none⟩ u3) R pa v L m := (h.far2 b hb u1 u2).far (p := ⟨b, 2, none⟩) hb u3
theorem Tch.fresh2 (h : Tch R w0 w) {b : Nat} (hb : w0.heap.size ≤ b) (u1 u2 : Value) : Tch R w0 ((w.setCell ⟨b, 0, none⟩ u1).setCell ⟨b, 1, none⟩ u2) := (h.fresh (p := ⟨b, 0, none⟩) hb u1).fresh (p := ⟨b, 1, none⟩) hb u2
theorem Tch.fresh3 (h : Tch R w0 w) {b : Nat} (hb : w0.heap.size ≤ b) (u1 u2 u3 : Value) : Tch R w0 (((w.setCell ⟨b, 0, none⟩ u1).setCell ⟨b, 1, none⟩ u2).setCell ⟨b, 2, none⟩ u3) := (h.fresh2 hb u1 u2).fresh (p := ⟨b, 2, none⟩) hb u3
end

section
variable {w w' : World} {b0 et k n : Nat} {v : Value} {xs : List Value}
theorem row_base (h : w.ownsRow b0 et k v n xs) {g : Nat} (hg : v.ownBlock = some g) : b0 ≤ g := by
  rcases h.2 with ⟨rfl, _⟩ | ⟨g', cap, cur, rfl, hb, hh, _⟩
  · simp [Value.ownBlock] at hg
  · simp only [Value.ownBlock, Option.some.injEq] at hg
    subst hg
    exact hb
/-- A block of another type behind an append onto a row of the call's own. -/
theorem grown_far (h : w.ownsRow b0 et k v n xs) (hg : w.grownBy w' v.ownBlock) {b : Nat} {c : Array Value} {t : Nat} {f : Nat × Nat} (hb : w.heap[b]? = some (.cells c t f)) (ht : t ≠ et) : w'.heap[b]? = some (.cells c t f) :=
  (hg.block b (Array.getElem?_eq_some_iff.1 hb).1 (fun e => by
    obtain ⟨c2, hc⟩ := row_type h e.symm
    exact type_apart hb hc ht rfl)).trans hb
/-- A row of another type behind it. -/
theorem grown_row (h : w.ownsRow b0 et k v n xs) (hg : w.grownBy w' v.ownBlock) {b1 et' k' n' : Nat} {v' : Value} {xs' : List Value} (hr : w.ownsRow b1 et' k' v' n' xs') (ht : et' ≠ et) : w'.ownsRow b1 et' k' v' n' xs' :=
  row_keep hr (fun g e => by
    obtain ⟨c2, hc⟩ := row_type hr e
    exact (grown_far h hg hc ht).trans hc.symm)
/-- A row behind a store into a block of another type. -/
theorem set_row {b : Nat} {c : Array Value} {t : Nat} {f : Nat × Nat} (hb : w.heap[b]? = some (.cells c t f)) (hr : w.ownsRow b0 et k v n xs) (ht : et ≠ t) (o : Nat) (u : Value) : (w.setCell ⟨b, o, none⟩ u).ownsRow b0 et k v n xs :=
  row_keep hr (fun g e => by
    obtain ⟨c2, hc⟩ := row_type hr e
    exact heap_setCell_other w ⟨b, o, none⟩ g u (type_apart hc hb ht))
end

theorem set3_row {w : World} {b0 et k n : Nat} {v : Value} {xs : List Value} {b : Nat} {c : Array Value} {t : Nat} {f : Nat × Nat} (hb : w.heap[b]? = some (.cells c t f)) (hr : w.ownsRow b0 et k v n xs) (ht : et ≠ t) (u1 u2 u3 : Value) : (((w.setCell ⟨b, 0, none⟩ u1).setCell ⟨b, 1, none⟩ u2).setCell ⟨b, 2, none⟩ u3).ownsRow b0 et k v n xs :=
  row_keep hr (fun g e => by
    obtain ⟨c2, hc⟩ := row_type hr e
    have hne := type_apart hc hb ht
    exact (heap_setCell_other _ ⟨b, 2, none⟩ g u3 hne).trans ((heap_setCell_other _ ⟨b, 1, none⟩ g u2 hne).trans (heap_setCell_other _ ⟨b, 0, none⟩ g u1 hne)))

/-- A row of components in an own row: its cells. -/
theorem rowV {w : World} {base g n cap : Nat} {l : List Vl} (h : w.ownsRow base 41 3 (.slice (some ⟨g, 0, none⟩) n cap) n (flat encV l)) {i : Nat} (hi : i < l.length) :
    (w.cell? ⟨g, i * 3, none⟩ = some (.int .i64 l[i]!.1) ∧ w.cell? ⟨g, i * 3 + 1, none⟩ = some (.int .i64 l[i]!.2.1) ∧ w.cell? ⟨g, i * 3 + 2, none⟩ = some (.int .i64 l[i]!.2.2)) ∧ w.frozen? ⟨g, i * 3, none⟩ = false ∧ w.frozen? ⟨g, i * 3 + 1, none⟩ = false ∧ w.frozen? ⟨g, i * 3 + 2, none⟩ = false :=
  ⟨⟨row_cellsK lenV h hi 0 _ rfl, row_cellsK lenV h hi 1 _ rfl, row_cellsK lenV h hi 2 _ rfl⟩, h.frozenAt _, h.frozenAt _, h.frozenAt _⟩
theorem rowH {w : World} {base g n cap : Nat} {l : List Hd} (h : w.ownsRow base 38 2 (.slice (some ⟨g, 0, none⟩) n cap) n (flat encH l)) {i : Nat} (hi : i < l.length) :
    (w.cell? ⟨g, i * 2, none⟩ = some (.int .i64 l[i]!.1) ∧ w.cell? ⟨g, i * 2 + 1, none⟩ = some (.int .i64 l[i]!.2)) ∧ w.frozen? ⟨g, i * 2, none⟩ = false ∧ w.frozen? ⟨g, i * 2 + 1, none⟩ = false :=
  ⟨⟨row_cellsK lenH h hi 0 _ rfl, row_cellsK lenH h hi 1 _ rfl⟩, h.frozenAt _, h.frozenAt _⟩

section
variable {T pa : Nat} {m : Int} {M : Nat → Prop} {w : World}
/-- A whole component is stored. -/
theorem colV_put {L : List Vl} (hT : T ≠ 41) {g ln cs : Nat} (h : ColIs encV 41 3 T w M pa (.slice (some ⟨g, 0, none⟩) ln cs) L m) (n : Nat) (hn : n < L.length) (x1 x2 x3 : Int) :
    ColIs encV 41 3 T (((w.setCell ⟨g, n * 3, none⟩ (.int .i64 x1)).setCell ⟨g, n * 3 + 1, none⟩ (.int .i64 x2)).setCell ⟨g, n * 3 + 2, none⟩ (.int .i64 x3)) M pa (.slice (some ⟨g, 0, none⟩) ln cs) (L.set n (x1, x2, x3)) m ∧
      Tch M w (((w.setCell ⟨g, n * 3, none⟩ (.int .i64 x1)).setCell ⟨g, n * 3 + 1, none⟩ (.int .i64 x2)).setCell ⟨g, n * 3 + 2, none⟩ (.int .i64 x3)) := by
  obtain ⟨k1, t1⟩ := h.cell hT (n * 3) (.int .i64 x1) (flat_setc lenV 0 (by decide) (x1, L[n].2.1, L[n].2.2) (.int .i64 x1) L n hn rfl) (List.length_set ..)
  obtain ⟨k2, t2⟩ := k1.cell hT (n * 3 + 1) (.int .i64 x2) (flat_setc lenV 1 (by decide) (x1, x2, L[n].2.2) (.int .i64 x2) _ n (by simpa using hn) (by simp [encV])) (List.length_set ..)
  obtain ⟨k3, t3⟩ := k2.cell hT (n * 3 + 2) (.int .i64 x3) (flat_setc lenV 2 (by decide) (x1, x2, x3) (.int .i64 x3) _ n (by simpa using hn) (by simp [encV])) (List.length_set ..)
  rw [List.set_set, List.set_set] at k3
  exact ⟨k3, (t1.more t2).more t3⟩
/-- A whole handle is stored. -/
theorem colH_put {L : List Hd} (hT : T ≠ 38) {g ln cs : Nat} (h : ColIs encH 38 2 T w M pa (.slice (some ⟨g, 0, none⟩) ln cs) L m) (n : Nat) (hn : n < L.length) (x1 x2 : Int) :
    ColIs encH 38 2 T ((w.setCell ⟨g, n * 2, none⟩ (.int .i64 x1)).setCell ⟨g, n * 2 + 1, none⟩ (.int .i64 x2)) M pa (.slice (some ⟨g, 0, none⟩) ln cs) (L.set n (x1, x2)) m ∧
      Tch M w ((w.setCell ⟨g, n * 2, none⟩ (.int .i64 x1)).setCell ⟨g, n * 2 + 1, none⟩ (.int .i64 x2)) := by
  obtain ⟨k1, t1⟩ := h.cell hT (n * 2) (.int .i64 x1) (flat_setc lenH 0 (by decide) (x1, L[n].2) (.int .i64 x1) L n hn rfl) (List.length_set ..)
  obtain ⟨k2, t2⟩ := k1.cell hT (n * 2 + 1) (.int .i64 x2) (flat_setc lenH 1 (by decide) (x1, x2) (.int .i64 x2) _ n (by simpa using hn) (by simp [encH])) (List.length_set ..)
  rw [List.set_set] at k2
  exact ⟨k2, t1.more t2⟩
end
end Go.Proofs.YtknfmjjlfhfocaaDoor
