import Derived.Test.YtahichjiphjapaaGreatDoorZ32

/-
  Package quad: Put and Drop as calls on an object.
-/
namespace Go.Proofs.YtahichjiphjapaaGreatDoor
set_option linter.unusedSimpArgs false
set_option linter.unusedVariables false
open Go.RowKit Go.Sort Go.Lib Go.Shelf

section
variable {w : World} {M : Nat → Prop} {pt : Nat} {B : List Bxd} {eR eN eF : TypeId × Value} {base : Nat}
theorem asks_putT (x y a b c d : Int) (hx : HdOk (x, y)) (he : errB (a, b, c, d) = 0) (hl : B.length ≤ 200) (hE : Er3 w eR eN eF) (hG : 2 < base) :
    Asks base w (TrB pt B) (TrB pt (woB B (x, y) ++ [((x, y), (a, b, c, d))])) 25 #[.pointer (some ⟨pt, 0, none⟩), .agg #[.int .i64 x, .int .i64 y], .agg #[.int .i64 a, .int .i64 b, .int .i64 c, .int .i64 d]] (fun e => e = .returned .nilIface) :=
  fun M hM hp => putT_do hp (fun b e => (hM b e).2) x y a b c d hx he (by omega) hE
theorem asks_dropT (x y : Int) (hx : HdOk (x, y)) {b : Bx4} (hm : ((x, y), b) ∈ B) (hl : B.length ≤ 200) :
    Asks base w (TrB pt B) (TrB pt (woB B (x, y))) 45 #[.pointer (some ⟨pt, 0, none⟩), .agg #[.int .i64 x, .int .i64 y]] (fun e => e = .returned .nilIface) :=
  fun M hM hp => dropT_do hp (fun b e => (hM b e).2) x y hx hm (by omega)
end
end Go.Proofs.YtahichjiphjapaaGreatDoor
