/-
  A map of tiles in memory: its grid, its counts.
-/
import Derived.Test.YtmeinjkpbijaeaaDoorOp14
namespace Go.Proofs.YtmeinjkpbijaeaaDoor
set_option linter.unusedSimpArgs false
set_option linter.unusedVariables false
open Go.RowKit Go.Sort Go.Lib Go.Shelf

def ptP (pa : Nat) : Value := .pointer (some ⟨pa, 0, none⟩)
theorem encI1 : ∀ x : Int, encI x = [Value.int .i64 x] := fun _ => rfl
/-- At block pa is a map of type t: its grid g, its counts c in the slice v; its blocks are among M. -/
def MpIs (t : Nat) (w : World) (M : Nat → Prop) (pa : Nat) (v : Value) (g : Gd) (c : List Int) : Prop :=
  w.heap[pa]? = some (.cells #[.int .i64 g.w, .int .i64 g.h, .int .i64 g.s, .int .i64 g.x, .int .i64 g.y, v] t (0, 0)) ∧ M pa ∧ RowAt encI 3 1 w M v c
structure MpAt (t : Nat) (w : World) (M : Nat → Prop) (pa : Nat) (g : Gd) (c : List Int) : Prop where
  is : ∃ v, MpIs t w M pa v g c
  ok : grOk g = true
  len : c.length = ntl g
  far : t ≠ 3
section
variable {t pa : Nat} {g : Gd} {c c' : List Int} {M R : Nat → Prop} {w w' w2 : World} {v v' : Value}
theorem MpIs.mono {M' : Nat → Prop} (h : MpIs t w M pa v g c) (hM : ∀ b, M b → M' b) : MpIs t w M' pa v g c := ⟨h.1, hM _ h.2.1, h.2.2.mono hM⟩
theorem MpAt.mono {M' : Nat → Prop} (h : MpAt t w M pa g c) (hM : ∀ b, M b → M' b) : MpAt t w M' pa g c := ⟨h.is.imp fun _ q => q.mono hM, h.ok, h.len, h.far⟩
theorem MpIs.lt (h : MpIs t w M pa v g c) : pa < w.heap.size := (Array.getElem?_eq_some_iff.1 h.1).1
theorem MpAt.lt (h : MpAt t w M pa g c) : pa < w.heap.size := h.is.choose_spec.lt
theorem MpIs.kept (h : MpIs t w R pa v g c) (k : Tch M w w') (hd : ∀ b, R b → ¬ M b) : MpIs t w' R pa v g c :=
  ⟨(k.block pa h.lt (hd pa h.2.1)).trans h.1, h.2.1, h.2.2.kept k hd⟩
theorem MpAt.kept (h : MpAt t w R pa g c) (k : Tch M w w') (hd : ∀ b, R b → ¬ M b) : MpAt t w' R pa g c := ⟨h.is.imp fun _ q => q.kept k hd, h.ok, h.len, h.far⟩
theorem MpIs.below (h : MpIs t w R pa v g c) (k : RowKit.Below w.heap.size w w') : MpIs t w' R pa v g c := ⟨(k.block pa h.lt).trans h.1, h.2.1, h.2.2.below k⟩
theorem MpAt.below (h : MpAt t w R pa g c) (k : RowKit.Below w.heap.size w w') : MpAt t w' R pa g c := ⟨h.is.imp fun _ q => q.below k, h.ok, h.len, h.far⟩
/-- What a walk needs of a map. -/
theorem MpAt.open (h : MpAt t w M pa g c) : ∃ blk cap, MpIs t w M pa (.slice (some ⟨blk, 0, none⟩) c.length cap) g c ∧ c.length ≤ cap ∧ cap ≤ 9223372036854775807 ∧ blk < w.heap.size ∧ blk ≠ pa ∧ 1 ≤ c.length ∧ c.length ≤ 1024 := by
  have hn := ntl_cast h.ok
  have hl := h.len
  obtain ⟨v, q⟩ := h.is
  obtain ⟨p, cap, rfl, h1, h2, h3⟩ := row_val q.2.2.1
  unfold maxLen at h2
  obtain ⟨blk, rfl, hg, ho⟩ := h3 (by omega)
  obtain ⟨cc, hc⟩ := row_type q.2.2.1 ho
  exact ⟨blk, cap, q, h1, by omega, hg, type_apart hc q.1 h.far.symm, by omega, by omega⟩
/-- A count is stored. -/
theorem MpIs.cell {blk ln cs : Nat} (ht : t ≠ 3) (h : MpIs t w M pa (.slice (some ⟨blk, 0, none⟩) ln cs) g c) (j : Nat) (x : Int) :
    MpIs t (w.setCell ⟨blk, j, none⟩ (.int .i64 x)) M pa (.slice (some ⟨blk, 0, none⟩) ln cs) g (c.set j x) ∧ Tch M w (w.setCell ⟨blk, j, none⟩ (.int .i64 x)) := by
  obtain ⟨h1, h2, h3⟩ := h
  obtain ⟨c3, hc3⟩ := row_type h3.1 (g := blk) rfl
  have n1 : pa ≠ blk := type_apart h1 hc3 ht
  have hln : ln = c.length := by
    obtain ⟨p, cap, e, _⟩ := row_val h3.1
    simp only [Value.slice.injEq] at e
    exact e.2.1
  subst hln
  have hst := (h3.1.stored j (.int .i64 x)).1
  refine ⟨⟨(heap_setCell_other w ⟨blk, j, none⟩ pa _ n1).trans h1, h2, ⟨?_, h3.2⟩⟩, Tch.set w (h3.2 blk rfl) _⟩
  rw [flat1_set (c := Value.int .i64) encI1] at hst
  rw [List.length_set]
  exact hst
theorem MpIs.get {blk ln cs : Nat} (h : MpIs t w M pa (.slice (some ⟨blk, 0, none⟩) ln cs) g c) {j : Nat} (hj : j < c.length) : w.cell? ⟨blk, j, none⟩ = some (.int .i64 c[j]!) ∧ w.frozen? ⟨blk, j, none⟩ = false := by
  have hln : ln = c.length := by
    obtain ⟨p, cap, e, _⟩ := row_val h.2.2.1
    simp only [Value.slice.injEq] at e
    exact e.2.1
  subst hln
  exact ⟨row_cell1 encI1 h.2.2.1 j hj, h.2.2.1.frozenAt _⟩
theorem MpIs.cells (h : MpIs t w M pa v g c) : w.cell? ⟨pa, 0, none⟩ = some (.int .i64 g.w) ∧ w.cell? ⟨pa, 1, none⟩ = some (.int .i64 g.h) ∧ w.cell? ⟨pa, 2, none⟩ = some (.int .i64 g.s) ∧ w.cell? ⟨pa, 3, none⟩ = some (.int .i64 g.x) ∧ w.cell? ⟨pa, 4, none⟩ = some (.int .i64 g.y) ∧ w.cell? ⟨pa, 5, none⟩ = some v := cells6 h.1
theorem flatI_zs (n : Nat) : flat encI (zs n) = List.replicate n (Value.int .i64 0) := by
  rw [flat1 encI1]
  simp [zs]
/-- A map that the call has made. -/
theorem mp_made (w W : World) (cs : Array Value) (n : Nat) (hw : w.heap.size ≤ W.heap.size) (hn : n ≤ 1024) (hc : cs.toList = flat encI (zs n)) :
    MpIs t ((W.alloc (.cells cs 3)).alloc (.cells #[.int .i64 g.w, .int .i64 g.h, .int .i64 g.s, .int .i64 g.x, .int .i64 g.y, .slice (some ⟨W.heap.size, 0, none⟩) n n] t)) (Fresh w ((W.alloc (.cells cs 3)).alloc (.cells #[.int .i64 g.w, .int .i64 g.h, .int .i64 g.s, .int .i64 g.x, .int .i64 g.y, .slice (some ⟨W.heap.size, 0, none⟩) n n] t))) (W.heap.size + 1) (.slice (some ⟨W.heap.size, 0, none⟩) n n) g (zs n) := by
  have hs : cs.size = n * 1 := by
    have := congrArg List.length hc
    rw [flat_len lenI, zs_len] at this
    simpa using this
  have h1 : (W.alloc (.cells cs 3)).ownsRow w.heap.size 3 1 (.slice (some ⟨W.heap.size, 0, none⟩) n n) n cs.toList := World.ownsRow_lit W cs n hw (by unfold maxLen; omega) hs
  rw [hc] at h1
  have h2 := row_below h1 (Ba (Below.refl _ (W.alloc (.cells cs 3))) (.cells #[.int .i64 g.w, .int .i64 g.h, .int .i64 g.s, .int .i64 g.x, .int .i64 g.y, .slice (some ⟨W.heap.size, 0, none⟩) n n] t))
  have h3 := heap_alloc_new (W.alloc (.cells cs 3)) (.cells #[.int .i64 g.w, .int .i64 g.h, .int .i64 g.s, .int .i64 g.x, .int .i64 g.y, .slice (some ⟨W.heap.size, 0, none⟩) n n] t)
  rw [show (W.alloc (.cells cs 3)).heap.size = W.heap.size + 1 by simp] at h3
  refine ⟨h3, .inr ⟨by omega, by simp⟩, row_fresh (w := w) ?_⟩
  rw [zs_len]
  exact h2
end
end Go.Proofs.YtmeinjkpbijaeaaDoor
