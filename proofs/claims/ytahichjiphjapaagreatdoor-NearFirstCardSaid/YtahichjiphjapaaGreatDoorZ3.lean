import Derived.Test.YtahichjiphjapaaGreatDoorZ0
import Derived.Test.YtahichjiphjapaaGreatDoorZ2
import Derived.Test.YtahichjiphjapaaGreatDoorZ22
import Derived.Test.YtahichjiphjapaaGreatDoorZ21
import Derived.Deep.RegionHeld3
import Derived.Test.YtahichjiphjapaaGreatDoorZ23

/-
  The reference: Half, Side, column.
-/
namespace Go.Proofs.YtahichjiphjapaaGreatDoor
set_option linter.unusedSimpArgs false
set_option linter.unusedVariables false
open Go.RowKit Go.Sort Go.Lib Go.Shelf

theorem rhalf_any (n : Int) (w : World) (h0 : -4611686018427387904 ≤ n) (h1 : n ≤ 4611686018427387904) :
    Calls Tryz.prog 41 #[.int .i64 n] w fun e w' => e = .returned (.int .i64 (halfI n)) ∧ w = w' := by
  unfold halfI
  by_cases h : n < 0
  · have e1 : ((1 - n) : Int).tdiv 2 = -(n / 2) := by rw [Int.tdiv_eq_ediv_of_nonneg (by omega)]; omega
    go_enter Tryz.func41, Tryz.ntmps41
    go_wp2
    go_ret
    exact ⟨ret_int (by omega), rfl⟩
  · have e1 : n.tdiv 2 = n / 2 := Int.tdiv_eq_ediv_of_nonneg (by omega)
    go_enter Tryz.func41, Tryz.ntmps41
    go_wp2
    go_ret
    exact ⟨rfl, rfl⟩
theorem wrap_pw {d : Nat} (hd : d ≤ 8) : wrap64 ((2 : Int) ^ d) = pwI d := by
  rcases le8 hd with rfl | rfl | rfl | rfl | rfl | rfl | rfl | rfl | rfl <;> exact (IntWalk.wrap64_in _ ⟨by decide, by decide⟩).trans (by decide)
end Go.Proofs.YtahichjiphjapaaGreatDoor

/-
  The reference: Of.
-/
namespace Go.Proofs.YtahichjiphjapaaGreatDoor
set_option linter.unusedSimpArgs false
set_option linter.unusedVariables false
open Go.RowKit Go.Sort Go.Lib Go.Shelf

theorem rright_okR (x1 x2 x3 x4 : Int) : rrightB x1 x2 x3 x4 = okR (x1, x2, x3, x4) := by
  rw [Bool.eq_iff_iff, okR_iff]
  simp only [rrightB, inB, Bool.and_eq_true, decide_eq_true_eq]
  omega
theorem okW_in (x1 x2 x3 x4 : Int) : okW (x1, x2, x3, x4) = (inB x1 2097152 && (inB x2 2097152 && (inB x3 2097152 && inB x4 2097152))) := by
  rw [Bool.eq_iff_iff, okW_iff]
  simp only [inB, Bool.and_eq_true, decide_eq_true_eq]
  omega
abbrev clV (c : Cl) : Value := .agg #[.int .i64 c.1, .int .i64 c.2.1, .int .i64 c.2.2]
theorem dK_step (wd ht : Int) (k : Nat) : dK wd ht (k + 1) = if wd ≤ sideI (k + 1) ∧ ht ≤ sideI (k + 1) then k + 1 else dK wd ht k := rfl
end Go.Proofs.YtahichjiphjapaaGreatDoor

/-
  The reference: Right, Loose.
-/
namespace Go.Proofs.YtahichjiphjapaaGreatDoor
set_option linter.unusedSimpArgs false
set_option linter.unusedVariables false
open Go.RowKit Go.Sort Go.Lib Go.Shelf

theorem cells3' {w : World} {t : TypeId} {a1 a2 a3 : Value} : (w.alloc (.cells #[a1, a2, a3] t)).cell? ⟨w.heap.size, 0, none⟩ = some a1 ∧ (w.alloc (.cells #[a1, a2, a3] t)).cell? ⟨w.heap.size, 1, none⟩ = some a2 ∧ (w.alloc (.cells #[a1, a2, a3] t)).cell? ⟨w.heap.size, 2, none⟩ = some a3 := ⟨by simp, by simp, by simp⟩
abbrev bxV (b : Bx4) : Value := .agg #[.int .i64 b.1, .int .i64 b.2.1, .int .i64 b.2.2.1, .int .i64 b.2.2.2]
theorem right_parts {c1 c2 c3 : Int} (h : rightC (c1, c2, c3) = true) : ∃ k : Nat, c1 = (k : Int) ∧ k ≤ 8 ∧ 0 ≤ c2 ∧ 0 ≤ c3 ∧ c2 < pwI k ∧ c3 < pwI k := by
  unfold rightC at h
  simp only [Bool.and_eq_true, decide_eq_true_eq] at h
  obtain ⟨⟨⟨⟨⟨h1, h2⟩, h3⟩, h4⟩, h5⟩, h6⟩ := h
  exact ⟨c1.toNat, by omega, by omega, h3, h4, h5, h6⟩
theorem mul_side {x : Int} {k : Nat} (hk : k ≤ 8) (h0 : 0 ≤ x) (h1 : x < pwI k) : 0 ≤ x * sideI k ∧ x * sideI k ≤ 4194304 := by
  obtain ⟨s1, s2, s3, s4, s5⟩ := side_pw hk
  have h2 := Int.mul_le_mul_of_nonneg_right (show x ≤ pwI k by omega) (show 0 ≤ sideI k by omega)
  have h3 := Int.mul_nonneg h0 (show 0 ≤ sideI k by omega)
  rw [Int.mul_comm (pwI k)] at h2
  omega
end Go.Proofs.YtahichjiphjapaaGreatDoor

/-
  The reference: Meeting.
-/
namespace Go.Proofs.YtahichjiphjapaaGreatDoor
set_option linter.unusedSimpArgs false
set_option linter.unusedVariables false
open Go.RowKit Go.Sort Go.Lib Go.Shelf

theorem rmeets_4 (a q : Bx4) : rmeetsB a.1 a.2.1 a.2.2.1 a.2.2.2 q.1 q.2.1 q.2.2.1 q.2.2.2 = meets4 a q := rfl
def mtL (B : List Bxd) (q : Bx4) : List Hd := (B.filter fun b => meets4 b.2 q).map (·.1)
theorem mtL_len (B : List Bxd) (q : Bx4) : (mtL B q).length ≤ B.length := by
  unfold mtL
  rw [List.length_map]
  exact List.length_filter_le _ _
end Go.Proofs.YtahichjiphjapaaGreatDoor
