/-
  The arguments' shapes of stage 14: a grid, a point, boxes, a script.
-/
import Derived.Test.YtklpemcchfmdjaaDoorBas12
namespace Go.Proofs.YtklpemcchfmdjaaDoor
set_option linter.unusedSimpArgs false
set_option linter.unusedVariables false
open Go.ChangeShapes Go.WideShapes Go.ChangeAt Go.RowKit Go.Joins Go.Sort

theorem cellsGr : Tryd.prog.cellsOf 23 = 5 := by kernel_rfl
theorem array5 {α : Type} {cs : Array α} (h : cs.size = 5) : ∃ c0 c1 c2 c3 c4, cs = #[c0, c1, c2, c3, c4] := by
  obtain ⟨l⟩ := cs
  match l, h with
  | [c0, c1, c2, c3, c4], _ => exact ⟨c0, c1, c2, c3, c4, rfl⟩
set_option maxRecDepth 100000 in
theorem open_cells5 {H : Type} {enc : TypeId × Value → H} {W : World} {sp : Nat → Bool} {held : Bool} {fuel : Nat} {cs : List Value} {x : DataW H × List MemPlace} (ht : DataW.trod enc Tryd.prog W 0 sp held fuel 23 cs = some x) (hl : cs.length = 5) :
    ∃ g : Gd, cs = [.int .i64 g.w, .int .i64 g.h, .int .i64 g.s, .int .i64 g.x, .int .i64 g.y] := by
  match cs, hl with
  | [c0, c1, c2, c3, c4], _ =>
    obtain ⟨xs3, n3, _, _, _, hl3, hf3⟩ := DataW.trod_struct Tryd.underlying23 ht
    match xs3, hl3 with
    | [z0, z1, z2, z3, z4], _ =>
      have t0 := by simpa using hf3 0 _ rfl
      have t1 := by simpa using hf3 1 _ rfl
      have t2 := by simpa using hf3 2 _ rfl
      have t3 := by simpa using hf3 3 _ rfl
      have t4 := by simpa using hf3 4 _ rfl
      simp only [cellsInt, List.drop_zero, List.drop_succ_cons, List.take_succ_cons, List.take_zero] at t0 t1 t2 t3 t4
      obtain ⟨h0, g0, _, _⟩ := DataW.trod_int Tryd.underlying3 t0
      obtain ⟨h1, g1, _, _⟩ := DataW.trod_int Tryd.underlying3 t1
      obtain ⟨h2, g2, _, _⟩ := DataW.trod_int Tryd.underlying3 t2
      obtain ⟨h3, g3, _, _⟩ := DataW.trod_int Tryd.underlying3 t3
      obtain ⟨h4, g4, _, _⟩ := DataW.trod_int Tryd.underlying3 t4
      simp at g0 g1 g2 g3 g4
      subst g0 g1 g2 g3 g4
      exact ⟨⟨h0, h1, h2, h3, h4⟩, rfl⟩
set_option maxRecDepth 100000 in
theorem open_grid {H : Type} {enc : TypeId × Value → H} {W : World} {b0 : Nat} {sp : Nat → Bool} {held : Bool} {v : Value} {d : DataW H} {p : List MemPlace} (hv : Value.okWide Tryd.prog W .any b0 23 v) (h : DataW.Trod enc Tryd.prog W 0 sp held 23 v d p) :
    ∃ g : Gd, v = grV g := by
  obtain ⟨cs, rfl, hsz⟩ := okWide_struct Tryd.underlying23 hv
  obtain ⟨c0, c1, c2, c3, c4, rfl⟩ := array5 (hsz.trans cellsGr)
  obtain ⟨fuel, hf⟩ := h
  obtain ⟨g, hg⟩ := open_cells5 (cs := [c0, c1, c2, c3, c4]) (by simpa [Value.cells] using hf) rfl
  simp only [List.cons.injEq, and_true] at hg
  obtain ⟨rfl, rfl, rfl, rfl, rfl⟩ := hg
  exact ⟨g, rfl⟩
section
variable {H : Type} {enc : TypeId × Value → H} {W : World} {b0 : Nat} {held : Bool} {v : Value} {d : DataW H} {p : List MemPlace}
end
end Go.Proofs.YtklpemcchfmdjaaDoor
