/-
  A pool in memory with its two slices by name: a slot stored, a slice stored.
-/
import Derived.Test.YthodmicoejnfaaaDoorPm
namespace Go.Proofs.YthodmicoejnfaaaDoor
set_option linter.unusedSimpArgs false
set_option linter.unusedVariables false
open Go.RowKit Go.Sort Go.Lib Go.Shelf

/-- PoolAt, the two slices by name. -/
def PoolIs (T : Nat) (w : World) (M : Nat → Prop) (pa : Nat) (vs vf : Value) (S : List Slt) (Fr : List Int) : Prop :=
  w.heap[pa]? = some (.cells #[vs, vf] T (0, 0)) ∧ M pa ∧ RowAt encS 63 2 w M vs S ∧ RowAt encI 3 1 w M vf Fr

section
variable {T pa : Nat} {S : List Slt} {Fr : List Int} {M R : Nat → Prop} {w w' : World} {vs vf : Value}
theorem PoolAt.is (h : PoolAt T w M pa S Fr) : ∃ vs vf, PoolIs T w M pa vs vf S Fr := h
theorem PoolIs.at (h : PoolIs T w M pa vs vf S Fr) : PoolAt T w M pa S Fr := ⟨vs, vf, h⟩
theorem PoolIs.mono {M' : Nat → Prop} (h : PoolIs T w M pa vs vf S Fr) (hM : ∀ b, M b → M' b) : PoolIs T w M' pa vs vf S Fr := ⟨h.1, hM _ h.2.1, h.2.2.1.mono hM, h.2.2.2.mono hM⟩
theorem PoolIs.lt (h : PoolIs T w M pa vs vf S Fr) : pa < w.heap.size := (Array.getElem?_eq_some_iff.1 h.1).1
theorem PoolIs.below (h : PoolIs T w R pa vs vf S Fr) (t : RowKit.Below w.heap.size w w') : PoolIs T w' R pa vs vf S Fr :=
  ⟨(t.block pa h.lt).trans h.1, h.2.1, h.2.2.1.below t, h.2.2.2.below t⟩
theorem PoolIs.cells (h : PoolIs T w M pa vs vf S Fr) : w.cell? ⟨pa, 0, none⟩ = some vs ∧ w.cell? ⟨pa, 1, none⟩ = some vf ∧ w.frozen? ⟨pa, 0, none⟩ = false ∧ w.frozen? ⟨pa, 1, none⟩ = false := two_cells h.1

theorem flat_set0 (S : List Slt) (n : Nat) (hn : n < S.length) (g : Int) : (flat encS S).set (n * 2) (.int .i64 g) = flat encS (S.set n (g, S[n]!.2)) := by
  apply List.ext_getElem?
  intro j
  rcases Nat.lt_or_ge j (S.length * 2) with hj | hj
  · have e : j / 2 * 2 + j % 2 = j := by omega
    have h1 := flat_get lenS S (j / 2) (j % 2) (by omega) (by omega)
    have h2 := flat_get lenS (S.set n (g, S[n]!.2)) (j / 2) (j % 2) (by simp; omega) (by omega)
    rw [e] at h1 h2
    rw [h2, set_get S n _ _ hn, List.getElem?_set]
    by_cases hjn : n * 2 = j
    · subst hjn
      rw [if_pos rfl, if_pos (by rw [flat_len lenS]; exact hj), if_pos (by omega)]
      have : n * 2 % 2 = 0 := by omega
      rw [this]; rfl
    · rw [if_neg hjn, h1]
      by_cases hk : j / 2 = n
      · rw [if_pos hk, hk]
        have : j % 2 = 1 := by omega
        rw [this]; rfl
      · rw [if_neg hk]
  · rw [List.getElem?_eq_none (by simp [flat_len lenS]; omega), List.getElem?_eq_none (by simp [flat_len lenS]; omega)]
theorem flat_set1 (S : List Slt) (n : Nat) (hn : n < S.length) (b : Bool) : (flat encS S).set (n * 2 + 1) (.bool b) = flat encS (S.set n (S[n]!.1, b)) := by
  apply List.ext_getElem?
  intro j
  rcases Nat.lt_or_ge j (S.length * 2) with hj | hj
  · have e : j / 2 * 2 + j % 2 = j := by omega
    have h1 := flat_get lenS S (j / 2) (j % 2) (by omega) (by omega)
    have h2 := flat_get lenS (S.set n (S[n]!.1, b)) (j / 2) (j % 2) (by simp; omega) (by omega)
    rw [e] at h1 h2
    rw [h2, set_get S n _ _ hn, List.getElem?_set]
    by_cases hjn : n * 2 + 1 = j
    · subst hjn
      rw [if_pos rfl, if_pos (by rw [flat_len lenS]; exact hj), if_pos (by omega)]
      have : (n * 2 + 1) % 2 = 1 := by omega
      rw [this]; rfl
    · rw [if_neg hjn, h1]
      by_cases hk : j / 2 = n
      · rw [if_pos hk, hk]
        have : j % 2 = 0 := by omega
        rw [this]; rfl
      · rw [if_neg hk]
  · rw [List.getElem?_eq_none (by simp [flat_len lenS]; omega), List.getElem?_eq_none (by simp [flat_len lenS]; omega)]

theorem type_apart {a b : Nat} {ca cb : Array Value} {ta tb : Nat} {fa fb : Nat × Nat} (ha : w.heap[a]? = some (.cells ca ta fa)) (hb : w.heap[b]? = some (.cells cb tb fb)) (ht : ta ≠ tb) : a ≠ b := fun e => by
  rw [e, hb] at ha
  simp at ha
  exact ht ha.2.1.symm
variable (hT : T ≠ 63) (hT2 : T ≠ 3)
include hT in
/-- A cell of a slot's row is stored: what the rows hold. -/
theorem PoolIs.cell {gs ln cs : Nat} (h : PoolIs T w M pa (.slice (some ⟨gs, 0, none⟩) ln cs) vf S Fr) (j : Nat) (u : Value) {S' : List Slt} (hS : (flat encS S).set j u = flat encS S') (hl : S'.length = S.length) :
    PoolIs T (w.setCell ⟨gs, j, none⟩ u) M pa (.slice (some ⟨gs, 0, none⟩) ln cs) vf S' Fr ∧ Tch M w (w.setCell ⟨gs, j, none⟩ u) := by
  obtain ⟨h1, h2, h3, h4⟩ := h
  obtain ⟨c3, hc3⟩ := row_type h3.1 (g := gs) rfl
  have n1 : pa ≠ gs := type_apart h1 hc3 hT
  have hln : ln = S.length := by
    have := h3.1
    obtain ⟨p, cap, e, _⟩ := row_val this
    simp only [Value.slice.injEq] at e
    exact e.2.1
  subst hln
  have hst := (h3.1.stored j u).1
  have t : Tch M w (w.setCell ⟨gs, j, none⟩ u) := Tch.set w (h3.2 gs rfl) u
  refine ⟨⟨(heap_setCell_other w ⟨gs, j, none⟩ pa u n1).trans h1, h2, ⟨?_, h3.2⟩, row_keep h4.1 (fun g hg => ?_), h4.2⟩, t⟩
  · rw [hS] at hst
    rw [hl]
    exact hst
  · obtain ⟨c4, hc4⟩ := row_type h4.1 hg
    exact heap_setCell_other w ⟨gs, j, none⟩ g u (type_apart hc4 hc3 (by decide))
include hT in
/-- A slot is stored. -/
theorem PoolIs.slot {gs ln cs : Nat} (h : PoolIs T w M pa (.slice (some ⟨gs, 0, none⟩) ln cs) vf S Fr) (n : Nat) (hn : n < S.length) (g : Int) (b : Bool) :
    PoolIs T ((w.setCell ⟨gs, n * 2, none⟩ (.int .i64 g)).setCell ⟨gs, n * 2 + 1, none⟩ (.bool b)) M pa (.slice (some ⟨gs, 0, none⟩) ln cs) vf (S.set n (g, b)) Fr ∧
      Tch M w ((w.setCell ⟨gs, n * 2, none⟩ (.int .i64 g)).setCell ⟨gs, n * 2 + 1, none⟩ (.bool b)) := by
  obtain ⟨k1, t1⟩ := h.cell hT (n * 2) (.int .i64 g) (flat_set0 S n hn g) (by simp)
  obtain ⟨k2, t2⟩ := k1.cell hT (n * 2 + 1) (.bool b) (flat_set1 _ n (by simpa using hn) b) (by simp)
  rw [set_get S n n _ hn, if_pos rfl, List.set_set] at k2
  exact ⟨k2, t1.more t2⟩
include hT hT2 in
/-- The slots' slice is stored. -/
theorem pool_put0 {a : Value} (h1 : w.heap[pa]? = some (.cells #[a, vf] T (0, 0))) (hm : M pa) (hs : RowAt encS 63 2 w M vs S) (hf : RowAt encI 3 1 w M vf Fr) :
    PoolIs T (w.setCell ⟨pa, 0, none⟩ vs) M pa vs vf S Fr ∧ Tch M w (w.setCell ⟨pa, 0, none⟩ vs) := by
  have e := heap_setCell_same w pa 0 #[a, vf] T vs h1
  refine ⟨⟨by simpa using e, hm, ⟨row_keep hs.1 (fun g hg => ?_), hs.2⟩, row_keep hf.1 (fun g hg => ?_), hf.2⟩, Tch.set w hm vs⟩
  · obtain ⟨c, hc⟩ := row_type hs.1 hg
    exact heap_setCell_other w ⟨pa, 0, none⟩ g vs (type_apart hc h1 (Ne.symm hT))
  · obtain ⟨c, hc⟩ := row_type hf.1 hg
    exact heap_setCell_other w ⟨pa, 0, none⟩ g vs (type_apart hc h1 (Ne.symm hT2))
include hT hT2 in
/-- The free places' slice is stored. -/
theorem pool_put1 {a : Value} (h1 : w.heap[pa]? = some (.cells #[vs, a] T (0, 0))) (hm : M pa) (hs : RowAt encS 63 2 w M vs S) (hf : RowAt encI 3 1 w M vf Fr) :
    PoolIs T (w.setCell ⟨pa, 1, none⟩ vf) M pa vs vf S Fr ∧ Tch M w (w.setCell ⟨pa, 1, none⟩ vf) := by
  have e := heap_setCell_same w pa 1 #[vs, a] T vf h1
  refine ⟨⟨by simpa using e, hm, ⟨row_keep hs.1 (fun g hg => ?_), hs.2⟩, row_keep hf.1 (fun g hg => ?_), hf.2⟩, Tch.set w hm vf⟩
  · obtain ⟨c, hc⟩ := row_type hs.1 hg
    exact heap_setCell_other w ⟨pa, 1, none⟩ g vf (type_apart hc h1 (Ne.symm hT))
  · obtain ⟨c, hc⟩ := row_type hf.1 hg
    exact heap_setCell_other w ⟨pa, 1, none⟩ g vf (type_apart hc h1 (Ne.symm hT2))
/-- A store into a block of another type. -/
theorem PoolIs.other (h : PoolIs T w M pa vs vf S Fr) {p : Addr} {c : Array Value} {t : Nat} {f : Nat × Nat} (hb : w.heap[p.block]? = some (.cells c t f)) (k1 : T ≠ t) (k2 : 63 ≠ t) (k3 : 3 ≠ t) (u : Value) : PoolIs T (w.setCell p u) M pa vs vf S Fr := by
  refine ⟨(heap_setCell_other w p pa u (type_apart h.1 hb k1)).trans h.1, h.2.1, ⟨row_keep h.2.2.1.1 (fun g hg => ?_), h.2.2.1.2⟩, row_keep h.2.2.2.1 (fun g hg => ?_), h.2.2.2.2⟩
  · obtain ⟨c', hc⟩ := row_type h.2.2.1.1 hg
    exact heap_setCell_other w p g u (type_apart hc hb k2)
  · obtain ⟨c', hc⟩ := row_type h.2.2.2.1 hg
    exact heap_setCell_other w p g u (type_apart hc hb k3)
/-- A block behind a store elsewhere. -/
theorem blk_far {b : Nat} {o : Obj} (h : w.heap[b]? = some o) {p : Addr} (hp : b ≠ p.block) (u : Value) : (w.setCell p u).heap[b]? = some o := (heap_setCell_other w p b u hp).trans h
theorem blk_below {b : Nat} {o : Obj} (h : w.heap[b]? = some o) (t : RowKit.Below w.heap.size w w') : w'.heap[b]? = some o := (t.block b (Array.getElem?_eq_some_iff.1 h).1).trans h
/-- A handle's block, written over. -/
theorem blk_hd {b : Nat} {x0 x1 y0 y1 : Value} {t : Nat} (h : w.heap[b]? = some (.cells #[x0, x1] t (0, 0))) : ((w.setCell ⟨b, 0, none⟩ y0).setCell ⟨b, 1, none⟩ y1).heap[b]? = some (.cells #[y0, y1] t (0, 0)) := by
  have e := heap_setCell_same w b 0 #[x0, x1] t y0 h
  have e2 := heap_setCell_same _ b 1 _ t y1 e
  simpa using e2
/-- The front of a row. -/
theorem RowAt.front {l : List Int} {g n cap : Nat} (h : RowAt encI 3 1 w M (.slice (some ⟨g, 0, none⟩) n cap) l) (j : Nat) (hj : j ≤ l.length) : RowAt encI 3 1 w M (.slice (some ⟨g, 0, none⟩) j cap) (l.take j) := by
  have hn : n = l.length := by
    obtain ⟨p, c, e, _⟩ := row_val h.1
    simp only [Value.slice.injEq] at e
    exact e.2.1
  subst hn
  refine ⟨?_, fun g' hg => h.2 g' hg⟩
  have := frontI (w := w) (base := 0) (et := 3) h.1 rfl j hj
  rw [show (l.take j).length = j by simp; omega]
  exact this
include hT in
/-- Behind an append onto the slots: the pool's block and its free places. -/
theorem PoolIs.grown0 (h : PoolIs T w M pa vs vf S Fr) (hg : w.grownBy w' vs.ownBlock) : w'.heap[pa]? = some (.cells #[vs, vf] T (0, 0)) ∧ RowAt encI 3 1 w' M vf Fr := by
  refine ⟨(hg.block pa h.lt (fun e => ?_)).trans h.1, row_keep h.2.2.2.1 (fun g hgv => hg.block g (row_lt h.2.2.2.1 hgv) (fun e => ?_)), h.2.2.2.2⟩
  · obtain ⟨c, hc⟩ := row_type h.2.2.1.1 e.symm
    exact type_apart h.1 hc hT rfl
  · obtain ⟨c, hc⟩ := row_type h.2.2.1.1 e.symm
    obtain ⟨c2, hc2⟩ := row_type h.2.2.2.1 hgv
    exact type_apart hc2 hc (by decide) rfl
include hT2 in
/-- Behind an append onto the free places: the pool's block and its slots. -/
theorem PoolIs.grown1 (h : PoolIs T w M pa vs vf S Fr) (hg : w.grownBy w' vf.ownBlock) : w'.heap[pa]? = some (.cells #[vs, vf] T (0, 0)) ∧ RowAt encS 63 2 w' M vs S := by
  refine ⟨(hg.block pa h.lt (fun e => ?_)).trans h.1, row_keep h.2.2.1.1 (fun g hgv => hg.block g (row_lt h.2.2.1.1 hgv) (fun e => ?_)), h.2.2.1.2⟩
  · obtain ⟨c, hc⟩ := row_type h.2.2.2.1 e.symm
    exact type_apart h.1 hc hT2 rfl
  · obtain ⟨c, hc⟩ := row_type h.2.2.2.1 e.symm
    obtain ⟨c2, hc2⟩ := row_type h.2.2.1.1 hgv
    exact type_apart hc2 hc (by decide) rfl
/-- A block of another type behind an append onto a row. -/
theorem blk_grown {α : Type} {enc : α → List Value} {et k : Nat} {v : Value} {l : List α} (h : RowAt enc et k w M v l) (hg : w.grownBy w' v.ownBlock) {b : Nat} {c : Array Value} {t : Nat} {f : Nat × Nat} (hb : w.heap[b]? = some (.cells c t f)) (ht : t ≠ et) : w'.heap[b]? = some (.cells c t f) :=
  (hg.block b (Array.getElem?_eq_some_iff.1 hb).1 (fun e => by
    obtain ⟨c2, hc⟩ := row_type h.1 e.symm
    exact type_apart hb hc ht rfl)).trans hb
/-- Behind an append onto a row of M. -/
theorem row_grown {α : Type} {enc : α → List Value} {et k : Nat} {v v' : Value} {l' : List α} (hv : ∀ g, v.ownBlock = some g → M g) (hown : w'.ownsRow 0 et k v' l'.length (flat enc l')) (hg : w.grownBy w' v.ownBlock) (hat : v'.ownBlock = v.ownBlock ∨ v'.ownBlock = some w.heap.size) :
    RowAt enc et k w' (New M w w') v' l' ∧ Tch M w w' := by
  refine ⟨⟨hown, fun g e => ?_⟩, Tch.grown hg hv⟩
  rcases hat with h | h
  · exact .inl (hv g (by rw [← h]; exact e))
  · rw [h] at e
    simp only [Option.some.injEq] at e
    exact .inr ⟨by omega, row_lt hown (by rw [h, e])⟩
end
end Go.Proofs.YthodmicoejnfaaaDoor
