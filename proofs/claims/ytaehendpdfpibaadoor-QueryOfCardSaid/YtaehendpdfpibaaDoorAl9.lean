/-
  What masks fit two others: alone, together, turned into bits.
-/
import Derived.Test.YtaehendpdfpibaaDoorBs9
namespace Go.Proofs.YtaehendpdfpibaaDoor
set_option linter.unusedSimpArgs false
set_option linter.unusedVariables false
open Go.RowKit Go.Sort Go.Lib Go.Shelf
/-- Fits of a mask, two together. -/
def fitN (m a b : Nat) : Bool := (m &&& a == a) && !(m &&& b != 0)
theorem and_eq_iff (m a : Nat) : m &&& a = a ↔ ∀ i, a.testBit i = true → m.testBit i = true := by
  constructor
  · intro h i hi
    have := congrArg (fun q => q.testBit i) h
    simp only [Nat.testBit_and, hi, Bool.and_true] at this
    exact this
  · intro h
    refine Nat.eq_of_testBit_eq fun i => ?_
    rw [Nat.testBit_and]
    cases e : a.testBit i
    · simp
    · rw [h i e]; rfl
theorem and_zero_iff (m a : Nat) : m &&& a = 0 ↔ ∀ i, m.testBit i = true → a.testBit i = false := by
  constructor
  · intro h i hi
    have := congrArg (fun q => q.testBit i) h
    simpa [Nat.testBit_and, hi] using this
  · intro h
    refine Nat.eq_of_testBit_eq fun i => ?_
    rw [Nat.testBit_and, Nat.zero_testBit]
    cases e : m.testBit i
    · rfl
    · rw [h i e]; rfl
theorem fitN_iff (m a b : Nat) : fitN m a b = true ↔ (∀ i, a.testBit i = true → m.testBit i = true) ∧ ∀ i, m.testBit i = true → b.testBit i = false := by
  unfold fitN
  rw [← and_eq_iff, ← and_zero_iff]
  simp
theorem fitN_both (m a b c d : Nat) : fitN m (a ||| c) (b ||| d) = (fitN m a b && fitN m c d) := by
  rw [Bool.eq_iff_iff, Bool.and_eq_true, fitN_iff, fitN_iff, fitN_iff]
  simp only [Nat.testBit_or, Bool.or_eq_true, Bool.or_eq_false_iff]
  constructor
  · rintro ⟨h1, h2⟩
    exact ⟨⟨fun i hi => h1 i (.inl hi), fun i hi => (h2 i hi).1⟩, fun i hi => h1 i (.inr hi), fun i hi => (h2 i hi).2⟩
  · rintro ⟨⟨h1, h2⟩, h3, h4⟩
    exact ⟨fun i hi => hi.elim (h1 i) (h3 i), fun i hi => ⟨h2 i hi, h4 i hi⟩⟩
theorem fitN_self {m : Nat} (hm : m < 18446744073709551616) : fitN m m (18446744073709551615 - m) = true := by
  rw [fitN_iff]
  refine ⟨fun i h => h, fun i h => ?_⟩
  rw [show 18446744073709551615 - m = 2 ^ 64 - (m + 1) by omega, Nat.testBit_two_pow_sub_succ (by omega), h]
  simp
theorem fitN_none (m : Nat) : fitN m 0 0 = true := by simp [fitN]
/-- The reference's Fits, of numbers' bits. -/
theorem fitsB_iff (f g h : Nat → Bool) : fitsB f g h 64 = true ↔ (∀ i, i < 64 → g i = true → f i = true) ∧ ∀ i, i < 64 → f i = true → h i = false := by
  unfold fitsB
  rw [List.all_eq_true]
  constructor
  · intro hall
    refine ⟨fun i hi hg => ?_, fun i hi hf => ?_⟩
    · have := hall i (by simpa using hi)
      cases e : f i
      · simp [e, hg] at this
      · rfl
    · have := hall i (by simpa using hi)
      cases e : h i
      · rfl
      · simp [e, hf] at this
  · rintro ⟨h1, h2⟩ i hi
    have hi' : i < 64 := by simpa using hi
    cases e1 : f i
    · have : g i = false := by
        cases e2 : g i
        · rfl
        · rw [h1 i hi' e2] at e1; cases e1
      simp [this]
    · simp [h2 i hi' e1]
theorem fits_same {m a b : Nat} (hm : m < 18446744073709551616) (ha : a < 18446744073709551616) : fitsB (fun i => m.testBit i) (fun i => a.testBit i) (fun i => b.testBit i) 64 = fitN m a b := by
  rw [Bool.eq_iff_iff, fitsB_iff, fitN_iff]
  constructor
  · rintro ⟨h1, h2⟩
    refine ⟨fun i hi => ?_, fun i hi => ?_⟩
    · rcases Nat.lt_or_ge i 64 with h | h
      · exact h1 i h hi
      · rw [lt64 ha h] at hi; cases hi
    · rcases Nat.lt_or_ge i 64 with h | h
      · exact h2 i h hi
      · rw [lt64 hm h] at hi; cases hi
  · rintro ⟨h1, h2⟩
    exact ⟨fun i _ hi => h1 i hi, fun i _ hi => h2 i hi⟩
end Go.Proofs.YtaehendpdfpibaaDoor
