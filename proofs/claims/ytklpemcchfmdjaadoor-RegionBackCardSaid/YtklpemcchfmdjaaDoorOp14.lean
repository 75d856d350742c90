/-
  A script's calls and boxes in memory; a grid's cells; the errors that tiles answers.
-/
import Derived.Test.YtklpemcchfmdjaaDoorOb12
import Derived.Test.YtklpemcchfmdjaaDoorPb14
import Derived.Test.YtklpemcchfmdjaaDoorErrK
namespace Go.Proofs.YtklpemcchfmdjaaDoor
set_option linter.unusedSimpArgs false
set_option linter.unusedVariables false
open Go.RowKit Go.Sort Go.Lib Go.Shelf

def encX (b : Bx4) : List Value := [.int .i64 b.1, .int .i64 b.2.1, .int .i64 b.2.2.1, .int .i64 b.2.2.2]
theorem lenX (b : Bx4) : (encX b).length = 4 := rfl
theorem atX {w : World} {l : List Bx4} {g o : Nat} (h : ∀ j u, (flat encX l)[j]? = some u → w.cell? ⟨g, o + j, none⟩ = some u) {i : Nat} (hi : i < l.length) :
    w.cell? ⟨g, o + i * 4, none⟩ = some (.int .i64 l[i]!.1) ∧ w.cell? ⟨g, o + i * 4 + 1, none⟩ = some (.int .i64 l[i]!.2.1) ∧ w.cell? ⟨g, o + i * 4 + 2, none⟩ = some (.int .i64 l[i]!.2.2.1) ∧ w.cell? ⟨g, o + i * 4 + 3, none⟩ = some (.int .i64 l[i]!.2.2.2) :=
  ⟨sl_at lenX h hi 0 _ rfl, sl_at lenX h hi 1 _ rfl, sl_at lenX h hi 2 _ rfl, sl_at lenX h hi 3 _ rfl⟩
/-- A call of a script: kind and box. -/
abbrev Opt := Int × Bx4
def encO (x : Opt) : List Value := [.int .i64 x.1, .int .i64 x.2.1, .int .i64 x.2.2.1, .int .i64 x.2.2.2.1, .int .i64 x.2.2.2.2]
theorem lenO (x : Opt) : (encO x).length = 5 := rfl
theorem atO {w : World} {l : List Opt} {g o : Nat} (h : ∀ j u, (flat encO l)[j]? = some u → w.cell? ⟨g, o + j, none⟩ = some u) {i : Nat} (hi : i < l.length) :
    w.cell? ⟨g, o + i * 5, none⟩ = some (.int .i64 l[i]!.1) ∧ w.cell? ⟨g, o + i * 5 + 1, none⟩ = some (.int .i64 l[i]!.2.1) ∧ w.cell? ⟨g, o + i * 5 + 2, none⟩ = some (.int .i64 l[i]!.2.2.1) ∧ w.cell? ⟨g, o + i * 5 + 3, none⟩ = some (.int .i64 l[i]!.2.2.2.1) ∧ w.cell? ⟨g, o + i * 5 + 4, none⟩ = some (.int .i64 l[i]!.2.2.2.2) :=
  ⟨sl_at lenO h hi 0 _ rfl, sl_at lenO h hi 1 _ rfl, sl_at lenO h hi 2 _ rfl, sl_at lenO h hi 3 _ rfl, sl_at lenO h hi 4 _ rfl⟩
abbrev bxV (b : Bx4) : Value := .agg #[.int .i64 b.1, .int .i64 b.2.1, .int .i64 b.2.2.1, .int .i64 b.2.2.2]
abbrev grV (g : Gd) : Value := .agg #[.int .i64 g.w, .int .i64 g.h, .int .i64 g.s, .int .i64 g.x, .int .i64 g.y]
theorem cells4 {w : World} {b : Nat} {t : TypeId} {a1 a2 a3 a4 : Value} (h : w.heap[b]? = some (.cells #[a1, a2, a3, a4] t (0, 0))) :
    w.cell? ⟨b, 0, none⟩ = some a1 ∧ w.cell? ⟨b, 1, none⟩ = some a2 ∧ w.cell? ⟨b, 2, none⟩ = some a3 ∧ w.cell? ⟨b, 3, none⟩ = some a4 := by
  refine ⟨?_, ?_, ?_, ?_⟩ <;> simp [World.cell?, h]
theorem cells5 {w : World} {b : Nat} {t : TypeId} {a1 a2 a3 a4 a5 : Value} (h : w.heap[b]? = some (.cells #[a1, a2, a3, a4, a5] t (0, 0))) :
    w.cell? ⟨b, 0, none⟩ = some a1 ∧ w.cell? ⟨b, 1, none⟩ = some a2 ∧ w.cell? ⟨b, 2, none⟩ = some a3 ∧ w.cell? ⟨b, 3, none⟩ = some a4 ∧ w.cell? ⟨b, 4, none⟩ = some a5 := by
  refine ⟨?_, ?_, ?_, ?_, ?_⟩ <;> simp [World.cell?, h]
theorem cells6 {w : World} {b : Nat} {t : TypeId} {a1 a2 a3 a4 a5 a6 : Value} (h : w.heap[b]? = some (.cells #[a1, a2, a3, a4, a5, a6] t (0, 0))) :
    w.cell? ⟨b, 0, none⟩ = some a1 ∧ w.cell? ⟨b, 1, none⟩ = some a2 ∧ w.cell? ⟨b, 2, none⟩ = some a3 ∧ w.cell? ⟨b, 3, none⟩ = some a4 ∧ w.cell? ⟨b, 4, none⟩ = some a5 ∧ w.cell? ⟨b, 5, none⟩ = some a6 := by
  refine ⟨?_, ?_, ?_, ?_, ?_, ?_⟩ <;> simp [World.cell?, h]
theorem two_blk {w : World} {o1 o2 : Obj} {w3 : World} (h : RowKit.Below ((w.alloc o1).alloc o2).heap.size ((w.alloc o1).alloc o2) w3) : w3.heap[w.heap.size]? = some o1 ∧ w3.heap[w.heap.size + 1]? = some o2 ∧ w.heap.size < w3.heap.size ∧ w.heap.size + 1 < w3.heap.size := by
  obtain ⟨a, b⟩ := three_blk h
  exact ⟨a, b, (Array.getElem?_eq_some_iff.1 a).1, (Array.getElem?_eq_some_iff.1 b).1⟩
abbrev OwnI (w : World) (base : Nat) (v : Value) (l : List Int) : Prop := w.ownsRow base 3 1 v l.length (flat encI l)
theorem own_nil (w : World) (base : Nat) : OwnI w base (.slice none 0 0) [] := ⟨by simp [flat], .inl ⟨rfl, rfl⟩⟩
structure Er3 (w : World) (r n f : TypeId × Value) : Prop where
  eR : w.cell? ⟨1, 0, none⟩ = some (.iface r.1 r.2)
  eN : w.cell? ⟨3, 0, none⟩ = some (.iface n.1 n.2)
  eF : w.cell? ⟨0, 0, none⟩ = some (.iface f.1 f.2)
theorem Er3.below {w w' : World} {eR eN eF : TypeId × Value} (h : Er3 w eR eN eF) (hb : RowKit.Below w.heap.size w w') : Er3 w' eR eN eF :=
  ⟨Bc hb (cell_lt h.eR) h.eR, Bc hb (cell_lt h.eN) h.eN, Bc hb (cell_lt h.eF) h.eF⟩
theorem Er3.of {w : World} {A : Nat → Addr} (h : Errs w A) : Er3 w (114, .pointer (some (A 0))) (114, .pointer (some (A 2))) (114, .pointer (some (A 6))) :=
  ⟨h.cell 0 (by omega), h.cell 2 (by omega), h.cell 6 (by omega)⟩
theorem Er3.three {w : World} {t1 t2 t3 : TypeId} {u1 u2 u3 : Value} (hR : w.cell? ⟨1, 0, none⟩ = some (.iface t1 u1)) (hN : w.cell? ⟨3, 0, none⟩ = some (.iface t2 u2)) (hF : w.cell? ⟨0, 0, none⟩ = some (.iface t3 u3)) : Er3 w (t1, u1) (t2, u2) (t3, u3) := ⟨hR, hN, hF⟩
end Go.Proofs.YtklpemcchfmdjaaDoor
