/-
  Components in memory; Check, the ranges, the reference's Check; the order of components; the closures handed to the library.
-/
import Derived.Test.YtaehendpdfpibaaDoorRow6
import Derived.Test.YtaehendpdfpibaaDoorVp
import Derived.Test.YtaehendpdfpibaaDoorMc6
namespace Go.Proofs.YtaehendpdfpibaaDoor
set_option linter.unusedSimpArgs false
set_option linter.unusedVariables false
open Go.RowKit Go.Sort Go.Lib Go.Shelf

def encV (x : Vl) : List Value := [.int .i64 x.1, .int .i64 x.2.1, .int .i64 x.2.2]
theorem lenV (x : Vl) : (encV x).length = 3 := rfl
theorem oneV (x : Vl) : ∀ v ∈ encV x, v.oneCell' = true := fun v hv => by simp [encV] at hv; rcases hv with rfl | rfl | rfl <;> rfl
theorem atV {w : World} {l : List Vl} {g o : Nat} (h : ∀ j u, (flat encV l)[j]? = some u → w.cell? ⟨g, o + j, none⟩ = some u) {i : Nat} (hi : i < l.length) :
    w.cell? ⟨g, o + i * 3, none⟩ = some (.int .i64 l[i]!.1) ∧ w.cell? ⟨g, o + i * 3 + 1, none⟩ = some (.int .i64 l[i]!.2.1) ∧ w.cell? ⟨g, o + i * 3 + 2, none⟩ = some (.int .i64 l[i]!.2.2) :=
  ⟨sl_at lenV h hi 0 _ rfl, sl_at lenV h hi 1 _ rfl, sl_at lenV h hi 2 _ rfl⟩
theorem apV : Ap encV 23 42 3 (.agg #[.int .i64 0, .int .i64 0, .int .i64 0]) 24 :=
  ⟨Tryd.underlying23, info_parts (by kernel_rfl), by decide, by decide, by decide, lenV, oneV⟩
/-- A component as a value. -/
def aggV (x : Vl) : Value := .agg #[.int .i64 x.1, .int .i64 x.2.1, .int .i64 x.2.2]
/-- An error by its number: none at 0. -/
def errV (A : Nat → Addr) (n : Nat) : Value := if n = 0 then .nilIface else .iface 81 (.pointer (some (A (n - 1))))
theorem errV_no (A : Nat → Addr) : errV A 0 = .nilIface := rfl
theorem errV_at (A : Nat → Addr) (n : Nat) (h : n ≠ 0) : errV A n = .iface 81 (.pointer (some (A (n - 1)))) := if_neg h

/-- The errors' variables that the code reads. -/
structure Er (w : World) (A : Nat → Addr) : Prop where
  range : w.cell? ⟨0, 0, none⟩ = some (.iface 81 (.pointer (some (A 0))))
  kind : w.cell? ⟨4, 0, none⟩ = some (.iface 81 (.pointer (some (A 4))))
theorem Er.below {w w' : World} {A : Nat → Addr} (h : Er w A) (hb : RowKit.Below w.heap.size w w') : Er w' A :=
  ⟨Bc hb (cell_lt h.range) h.range, Bc hb (cell_lt h.kind) h.kind⟩
theorem Er.k {w : World} {A : Nat → Addr} (h : Er w A) : ErrK w (A 4) := h.kind

/-! ### Ranges, Check. -/
theorem in_any (n lo hi : Int) (w : World) : Calls Tryd.prog 33 #[.int .i64 n, .int .i64 lo, .int .i64 hi] w fun e w' => e = .returned (.bool (inV n (lo, hi))) ∧ w = w' := by
  go_enter Tryd.func33, Tryd.ntmps33
  go_wp2
  all_goals (go_ret; exact ⟨ret_bool (by simp [inV, *] <;> omega), rfl⟩)
/-- A kind's ranges, as the program hands them. -/
def rngA (k : Int) : Value := .tuple #[.agg #[.int .i64 (rngV k).1.1, .int .i64 (rngV k).1.2], .agg #[.int .i64 (rngV k).2.1, .int .i64 (rngV k).2.2]]

end Go.Proofs.YtaehendpdfpibaaDoor
