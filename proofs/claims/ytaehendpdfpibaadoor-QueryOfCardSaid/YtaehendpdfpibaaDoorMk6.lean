/-
  Package masks and its reference, what needs no memory: kinds, one bit, the closures of With and Without, Holds, Meets, Fits, Less, Right, Has.
-/
import Derived.Test.YtaehendpdfpibaaDoorAp
import Derived.Test.YtaehendpdfpibaaDoorMm
import Derived.Laws.BitsAllLaws
import Derived.Laws.Bits64b
import Derived.Laws.Bits128
import Derived.Laws.Shifts
namespace Go.Proofs.YtaehendpdfpibaaDoor
set_option linter.unusedSimpArgs false
set_option linter.unusedVariables false
open Go.RowKit Go.Sort Go.Lib Go.Shelf




theorem isKind_any (k : Int) (w : World) : Calls Tryd.prog 36 #[.int .i64 k] w fun e w' => e = .returned (.bool (kindB k)) ∧ w = w' := by
  go_enter Tryd.func36, Tryd.ntmps36
  go_wp2
  all_goals (go_ret; exact ⟨ret_bool (by simp [kindB, *] <;> omega), rfl⟩)
theorem bit_any (k : Nat) (hk : k < 64) (w : World) : Calls Tryd.prog 37 #[.int .i64 k] w fun e w' => e = .returned (.int .u64 ((2 ^ k : Nat) : Int)) ∧ w = w' := by
  have hw : IntKind.u64.wrap (2 ^ k) = ((2 ^ k : Nat) : Int) := by
    have h := pow64 hk
    have e : ((2 ^ k : Nat) : Int) = (2 : Int) ^ k := by rw [Int.natCast_pow]; rfl
    rw [IntKind.wrap_u64, ← e]
    generalize 2 ^ k = q at *
    omega
  go_enter Tryd.func37, Tryd.ntmps37
  go_wp2
  go_ret
  exact ⟨rfl, rfl⟩

theorem with1_any (a b : Nat) (ha : a < 18446744073709551616) (hb : b < 18446744073709551616) (w : World) : Calls Tryd.prog 32 #[.int .u64 a, .int .u64 b] w fun e w' => e = .returned (.int .u64 ((a ||| b : Nat) : Int)) ∧ w = w' := by
  have h := u64_or_nat a b ha hb
  go_enter Tryd.func32, Tryd.ntmps32
  go_wp2
  go_ret
  exact ⟨rfl, rfl⟩
theorem eqN (a b : Nat) : ((a : Int) == (b : Int)) = (a == b) := by rw [Bool.eq_iff_iff]; simp; omega
theorem neN0 (a : Nat) : ((a : Int) != 0) = (a != 0) := by rw [Bool.eq_iff_iff]; simp
theorem holds_any (a b : Nat) (ha : a < 18446744073709551616) (hb : b < 18446744073709551616) (w : World) : Calls Tryd.prog 34 #[.int .u64 a, .int .u64 b] w fun e w' => e = .returned (.bool (a &&& b == b)) ∧ w = w' := by
  have h := u64_and_nat a b ha hb
  go_enter Tryd.func34, Tryd.ntmps34
  go_wp2
  go_ret
  exact ⟨ret_bool (eqN _ _), rfl⟩
theorem and_bit (m n : Nat) : (m &&& 2 ^ n != 0) = m.testBit n := by
  cases h : m.testBit n
  · have e : m &&& 2 ^ n = 0 := Nat.eq_of_testBit_eq fun i => by
      rw [Nat.testBit_and, Nat.testBit_two_pow, Nat.zero_testBit]
      by_cases hi : n = i
      · subst hi; simp [h]
      · simp [hi]
    rw [e]; rfl
  · have e : m &&& 2 ^ n ≠ 0 := fun e => by
      have := congrArg (fun q => q.testBit n) e
      simp [Nat.testBit_and, Nat.testBit_two_pow, h] at this
    simpa using e
theorem andN (a c : Nat) (A C : Int) (hA : A = a) (hC : C = c) (ha : a < 18446744073709551616) (hc : c < 18446744073709551616) : bits .and .u64 A C = ((a &&& c : Nat) : Int) := by
  subst hA hC
  exact u64_and_nat a c ha hc
theorem wrapN (a : Nat) (A : Int) (hA : A = a) (ha : a < 18446744073709551616) : IntKind.u64.wrap A = (a : Int) := by
  subst hA
  rw [IntKind.wrap_u64]
  omega
/-- With and Without, one kind after another. -/
def ErrK (w : World) (a : Addr) : Prop := w.cell? ⟨4, 0, none⟩ = some (.iface 81 (.pointer (some a)))
theorem ErrK.below {w w' : World} {a : Addr} (h : ErrK w a) (hb : RowKit.Below w.heap.size w w') : ErrK w' a := Bc hb (cell_lt h) h
theorem op_anyT (m k : Nat) (hm : m < 18446744073709551616) (hk : k < 64) (w : World) : Calls Tryd.prog 32 #[.int .u64 m, .int .u64 ((2 ^ k : Nat) : Int)] w fun e w' => e = .returned (.int .u64 (opN true m k : Nat)) ∧ w = w' := by
  simpa [opN] using with1_any m (2 ^ k) hm (pow64 hk) w
end Go.Proofs.YtaehendpdfpibaaDoor
