/-
  Boxes and calls of a script in memory; a Put whatever the box.
-/
import Derived.Test.YtbodefigeiaodaaDoorOb11
import Derived.Test.YtbodefigeiaodaaDoorTn11
namespace Go.Proofs.YtbodefigeiaodaaDoor
set_option linter.unusedSimpArgs false
set_option linter.unusedVariables false
open Go.RowKit Go.Sort Go.Lib Go.Shelf

def encX (b : Bx4) : List Value := [.int .i64 b.1, .int .i64 b.2.1, .int .i64 b.2.2.1, .int .i64 b.2.2.2]
theorem lenX (b : Bx4) : (encX b).length = 4 := rfl
theorem atX {w : World} {l : List Bx4} {g o : Nat} (h : ∀ j u, (flat encX l)[j]? = some u → w.cell? ⟨g, o + j, none⟩ = some u) {i : Nat} (hi : i < l.length) :
    w.cell? ⟨g, o + i * 4, none⟩ = some (.int .i64 l[i]!.1) ∧ w.cell? ⟨g, o + i * 4 + 1, none⟩ = some (.int .i64 l[i]!.2.1) ∧ w.cell? ⟨g, o + i * 4 + 2, none⟩ = some (.int .i64 l[i]!.2.2.1) ∧ w.cell? ⟨g, o + i * 4 + 3, none⟩ = some (.int .i64 l[i]!.2.2.2) :=
  ⟨sl_at lenX h hi 0 _ rfl, sl_at lenX h hi 1 _ rfl, sl_at lenX h hi 2 _ rfl, sl_at lenX h hi 3 _ rfl⟩
theorem hd_small (i : Nat) (hi : i ≤ 1000) : HdOk ((i : Int), 1) := by
  exact ⟨WalkArith.wf_i64 (by dsimp only; omega), (by decide : (Lit.int .i64 1).wf = true)⟩
theorem hd_at (x : Int) (h0 : 0 ≤ x) (h1 : x ≤ 1000) : HdOk (x, 1) := ⟨WalkArith.wf_i64 (by dsimp only; omega), (by decide : (Lit.int .i64 1).wf = true)⟩
/-- A call of a script: kind, handle, box. -/
abbrev Opw := Int × Hd × Bx4
def encO (x : Opw) : List Value := [.int .i64 x.1, .int .i64 x.2.1.1, .int .i64 x.2.1.2, .int .i64 x.2.2.1, .int .i64 x.2.2.2.1, .int .i64 x.2.2.2.2.1, .int .i64 x.2.2.2.2.2]
theorem lenO (x : Opw) : (encO x).length = 7 := rfl
theorem atO {w : World} {l : List Opw} {g o : Nat} (h : ∀ j u, (flat encO l)[j]? = some u → w.cell? ⟨g, o + j, none⟩ = some u) {i : Nat} (hi : i < l.length) :
    w.cell? ⟨g, o + i * 7, none⟩ = some (.int .i64 l[i]!.1) ∧ w.cell? ⟨g, o + i * 7 + 1, none⟩ = some (.int .i64 l[i]!.2.1.1) ∧ w.cell? ⟨g, o + i * 7 + 2, none⟩ = some (.int .i64 l[i]!.2.1.2) ∧
    w.cell? ⟨g, o + i * 7 + 3, none⟩ = some (.int .i64 l[i]!.2.2.1) ∧ w.cell? ⟨g, o + i * 7 + 4, none⟩ = some (.int .i64 l[i]!.2.2.2.1) ∧ w.cell? ⟨g, o + i * 7 + 5, none⟩ = some (.int .i64 l[i]!.2.2.2.2.1) ∧ w.cell? ⟨g, o + i * 7 + 6, none⟩ = some (.int .i64 l[i]!.2.2.2.2.2) :=
  ⟨sl_at lenO h hi 0 _ rfl, sl_at lenO h hi 1 _ rfl, sl_at lenO h hi 2 _ rfl, sl_at lenO h hi 3 _ rfl, sl_at lenO h hi 4 _ rfl, sl_at lenO h hi 5 _ rfl, sl_at lenO h hi 6 _ rfl⟩
/-- A call on the objects, in a world that has only new blocks. -/
theorem OO.go {P P' : Ob} {W wr w' : World} {fn : FuncId} {args : Array Value} {E : Ending → Prop} (hP : Fr P) (h : OO P NoZ W.heap.size wr) (hB : RowKit.Below W.heap.size W wr) (hb : RowKit.Below wr.heap.size wr w')
    (hc : RowKit.Below W.heap.size W w' → Asks W.heap.size w' P P' fn args E) : Calls Tryd.prog fn args w' fun e w5 => E e ∧ OO P' NoZ W.heap.size w5 ∧ RowKit.Below W.heap.size W w5 :=
  ((h.below hP hb).ask (hc (Bt hB hb))).mono fun e w5 ⟨he, ho, ht⟩ => ⟨he, ho, (Bt hB hb).trans (OO.tch ht (Bt hB hb).size)⟩
theorem SwAt.of1 {w : World} {M : Nat → Prop} {pa pb : Nat} {A B : List Bxd} (h : And2 (SwB pa A) (SwB pb B) w M) : SwAt w M pa A := by
  obtain ⟨M1, M2, h1, _, h3, _⟩ := h
  exact h1.mono (fun b e => (h3 b e).1)
theorem SwAt.of2 {w : World} {M : Nat → Prop} {pa pb : Nat} {A B : List Bxd} (h : And2 (SwB pa A) (SwB pb B) w M) : SwAt w M pb B := by
  obtain ⟨M1, M2, _, h2, _, h4⟩ := h
  exact h2.mono h4
abbrev PutSF : Nat := 24
/-- Put, whatever the box: what it answers, what the sweep then holds. -/
theorem asks_putAny {base : Nat} {w : World} {ps : Nat} {B : List Bxd} (x y a b c d : Int) (hx : HdOk (x, y)) (hl : B.length ≤ 200) {t t2 : TypeId} {u u2 : Value} (hE : w.cell? ⟨2, 0, none⟩ = some (.iface t u)) (hF : w.cell? ⟨6, 0, none⟩ = some (.iface t2 u2)) (hG : 2 < base) :
    Asks base w (SwB ps B) (SwB ps (if boxB (a, b, c, d) then woB B (x, y) ++ [((x, y), (a, b, c, d))] else B)) PutSF #[.pointer (some ⟨ps, 0, none⟩), .agg #[.int .i64 x, .int .i64 y], .agg #[.int .i64 a, .int .i64 b, .int .i64 c, .int .i64 d]] (fun e => e = .returned (if boxB (a, b, c, d) then .nilIface else .iface t2 u2)) := by
  cases h : boxB (a, b, c, d) with
  | true => exact asks_putS x y a b c d hx h hl hE hG
  | false => exact asks_same (fr_sw ps B) (fun M hM => putS_no 0 x y a b c d h t2 u2 hF)

theorem asks_dropS {base : Nat} {w : World} {ps : Nat} {B : List Bxd} (x y : Int) (hx : HdOk (x, y)) {a b c d : Int} (hm : ((x, y), (a, b, c, d)) ∈ B) (hl : B.length ≤ 200) :
    Asks base w (SwB ps B) (SwB ps (woB B (x, y))) 28 #[.pointer (some ⟨ps, 0, none⟩), .agg #[.int .i64 x, .int .i64 y]] (fun e => e = .returned .nilIface) := fun M _ h => dropS_yes h x y hx hm hl
end Go.Proofs.YtbodefigeiaodaaDoor
