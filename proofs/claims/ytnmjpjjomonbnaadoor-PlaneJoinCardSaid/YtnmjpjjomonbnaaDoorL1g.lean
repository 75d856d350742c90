/-
  The walk of the law PlaneWithin: it answers true, whatever it is given.
-/
import Derived.Test.YtnmjpjjomonbnaaDoorJoin
import Derived.Test.YtnmjpjjomonbnaaDoorL1a
namespace Go.Proofs.YtnmjpjjomonbnaaDoor
set_option linter.unusedSimpArgs false
set_option linter.unusedVariables false
open Go.RowKit

theorem inside_bd {a b c d p q r s : Int} (h : insideB a b c d p q r s = true) : rightB a b c d = true ∧ rightB p q r s = true ∧ p ≤ a ∧ c ≤ r ∧ q ≤ b ∧ d ≤ s := by
  rw [inside_same, ← right_same, ← right_same] at h
  simp only [Bool.and_eq_true] at h
  obtain ⟨⟨⟨h1, h2⟩, h3⟩, h4⟩ := h
  simp [rhasB] at h3 h4
  exact ⟨h1, h2, by omega, by omega, by omega, by omega⟩
theorem inside_of {a b c d p q r s : Int} (h1 : rightB a b c d = true) (h2 : rightB p q r s = true) (h3 : p ≤ a) (h4 : c ≤ r) (h5 : q ≤ b) (h6 : d ≤ s) : insideB a b c d p q r s = true := by
  obtain ⟨_, _, _, _, _, _⟩ := right_bd h1
  rw [inside_same, ← right_same, ← right_same, h1, h2]
  simp [rhasB]
  omega
theorem inside_meets {a b c d p q r s : Int} (h : insideB a b c d p q r s = true) : meetsB a b c d p q r s = true := by
  obtain ⟨h1, h2, _, _, _, _⟩ := inside_bd h
  obtain ⟨_, _, _, _, _, _⟩ := right_bd h1
  unfold meetsB
  rw [h1, h2]
  simp
  omega
theorem inside_meets2 {a b c d p q r s x y z t : Int} (h : insideB a b c d p q r s = true) (k : meetsB a b c d x y z t = true) : meetsB p q r s x y z t = true := by
  obtain ⟨h1, h2, _, _, _, _⟩ := inside_bd h
  unfold meetsB at k ⊢
  rw [h1] at k
  rw [h2]
  simp at k ⊢
  refine ⟨k.1, ?_⟩
  omega
theorem inside_trans {a b c d p q r s x y z t : Int} (h : insideB a b c d p q r s = true) (k : insideB x y z t a b c d = true) : insideB x y z t p q r s = true := by
  obtain ⟨h1, h2, _, _, _, _⟩ := inside_bd h
  obtain ⟨k1, k2, _, _, _, _⟩ := inside_bd k
  exact inside_of k1 h2 (by omega) (by omega) (by omega) (by omega)

/-- Join of two boxes, the first one inside the second one. -/
theorem join_two (a b c d p q r s : Int) (W : World) (h : insideB a b c d p q r s = true) :
    Calls Tryd.prog 34 #[.slice (some ⟨W.heap.size, 0, none⟩) 2 2] (W.alloc (.cells #[.int .i64 a, .int .i64 b, .int .i64 c, .int .i64 d, .int .i64 p, .int .i64 q, .int .i64 r, .int .i64 s] 26)) fun e w' => e = .returned (.tuple #[.agg #[.int .i64 p, .int .i64 q, .int .i64 r, .int .i64 s], .nilIface]) ∧ Below (W.alloc (.cells #[.int .i64 a, .int .i64 b, .int .i64 c, .int .i64 d, .int .i64 p, .int .i64 q, .int .i64 r, .int .i64 s] 26)).heap.size (W.alloc (.cells #[.int .i64 a, .int .i64 b, .int .i64 c, .int .i64 d, .int .i64 p, .int .i64 q, .int .i64 r, .int .i64 s] 26)) w' := by
  obtain ⟨h1, h2, h3, h4, h5, h6⟩ := inside_bd h
  have hB : Boxes (W.alloc (.cells #[.int .i64 a, .int .i64 b, .int .i64 c, .int .i64 d, .int .i64 p, .int .i64 q, .int .i64 r, .int .i64 s] 26)) W.heap.size 0 2 (fun i => if i = 0 then ⟨a, b, c, d⟩ else ⟨p, q, r, s⟩) := by
    intro i hi
    obtain rfl | rfl : i = 0 ∨ i = 1 := by omega
    · exact ⟨by go_simp, by go_simp, by go_simp, by go_simp⟩
    · exact ⟨by go_simp, by go_simp, by go_simp, by go_simp⟩
  have := join_yes W.heap.size 0 2 2 _ _ hB (by omega) (by omega) (by omega) (by
    intro i hi
    obtain rfl | rfl : i = 0 ∨ i = 1 := by omega
    · exact h1
    · exact h2)
  simp only [joined, Bx.join, if_true, if_neg (show ¬ (1 : Nat) = 0 by omega)] at this
  rw [show min (min a a) p = p by omega, show min (min b b) q = q by omega, show max (max c c) r = r by omega, show max (max d d) s = s by omega] at this
  exact this

set_option maxRecDepth 100000 in
set_option maxHeartbeats 2000000 in
theorem planeWithin_walk (a b c d p q r s x y z t : Int) (w : World) :
    Calls Tryd.prog 13 #[.agg #[.int .i64 a, .int .i64 b, .int .i64 c, .int .i64 d], .agg #[.int .i64 p, .int .i64 q, .int .i64 r, .int .i64 s], .agg #[.int .i64 x, .int .i64 y, .int .i64 z, .int .i64 t]] w fun e w' => e = .returned (.bool true) ∧ Below w.heap.size w w' := by
  cases h : insideB a b c d p q r s
  · go_enter Tryd.func13, Tryd.ntmps13
    go_wp2_with (first
      | (go_at_call 14; refine (alive_any _).mono ?_; rintro e w1 ⟨rfl, hb1⟩; obtain ⟨hc1, hf1⟩ := bcell hb1; have hz0 : w.heap.size < w1.heap.size := Bl hb1 (by first | assumption | (simp; done) | (simp; omega)); have hz1 : w.heap.size + 1 < w1.heap.size := Bl hb1 (by first | assumption | (simp; done) | (simp; omega)); have hz2 : w.heap.size + 1 + 1 < w1.heap.size := Bl hb1 (by first | assumption | (simp; done) | (simp; omega)))
      | (go_at_call 25; refine (inside_any _ _ _ _ _ _ _ _ _).mono ?_; rintro e w1 ⟨rfl, hb1⟩; obtain ⟨hc1, hf1⟩ := bcell hb1; have hz0 : w.heap.size < w1.heap.size := Bl hb1 (by first | assumption | (simp; done) | (simp; omega)); have hz1 : w.heap.size + 1 < w1.heap.size := Bl hb1 (by first | assumption | (simp; done) | (simp; omega)); have hz2 : w.heap.size + 1 + 1 < w1.heap.size := Bl hb1 (by first | assumption | (simp; done) | (simp; omega))))
    go_ret
    exact ⟨rfl, (by repeat (first | exact Below.refl _ _ | apply Ba | apply Bd | apply Bn | (refine Bt ?_ (by assumption)) | (refine Bs ?_ (by first | (simp; done) | (simp; omega)) _)))⟩
  · have hI := Lib.hid h
    have hm := inside_meets h
    have K1 : Hid (meetsB a b c d x y z t = true → meetsB p q r s x y z t = true) := fun k => inside_meets2 h k
    have K2 : Hid (insideB x y z t a b c d = true → insideB x y z t p q r s = true) := fun k => inside_trans h k
    cases h1 : meetsB a b c d x y z t <;> cases h2 : insideB x y z t a b c d
    all_goals
      have k1 := K1.out
      have k2 := K2.out
      rw [h1] at k1
      rw [h2] at k2
      simp only [true_implies, false_implies, reduceCtorEq] at k1 k2
      go_enter Tryd.func13, Tryd.ntmps13
      go_wp2_with (first
        | (go_at_call 14; refine (alive_any _).mono ?_; rintro e w1 ⟨rfl, hb1⟩; obtain ⟨hc1, hf1⟩ := bcell hb1; have hz0 : w.heap.size < w1.heap.size := Bl hb1 (by first | assumption | (simp; done) | (simp; omega)); have hz1 : w.heap.size + 1 < w1.heap.size := Bl hb1 (by first | assumption | (simp; done) | (simp; omega)); have hz2 : w.heap.size + 1 + 1 < w1.heap.size := Bl hb1 (by first | assumption | (simp; done) | (simp; omega)))
        | (go_at_call 34; refine (join_two _ _ _ _ _ _ _ _ _ hI.out).mono ?_; rintro e w1 ⟨rfl, hb1⟩; obtain ⟨hc1, hf1⟩ := bcell hb1; have hz0 : w.heap.size < w1.heap.size := Bl hb1 (by first | assumption | (simp; done) | (simp; omega)); have hz1 : w.heap.size + 1 < w1.heap.size := Bl hb1 (by first | assumption | (simp; done) | (simp; omega)); have hz2 : w.heap.size + 1 + 1 < w1.heap.size := Bl hb1 (by first | assumption | (simp; done) | (simp; omega)))
        | (go_at_call 23; refine (meets_any _ _ _ _ _ _ _ _ _).mono ?_; rintro e w1 ⟨rfl, hb1⟩; obtain ⟨hc1, hf1⟩ := bcell hb1; have hz0 : w.heap.size < w1.heap.size := Bl hb1 (by first | assumption | (simp; done) | (simp; omega)); have hz1 : w.heap.size + 1 < w1.heap.size := Bl hb1 (by first | assumption | (simp; done) | (simp; omega)); have hz2 : w.heap.size + 1 + 1 < w1.heap.size := Bl hb1 (by first | assumption | (simp; done) | (simp; omega)))
        | (go_at_call 25; refine (inside_any _ _ _ _ _ _ _ _ _).mono ?_; rintro e w1 ⟨rfl, hb1⟩; obtain ⟨hc1, hf1⟩ := bcell hb1; have hz0 : w.heap.size < w1.heap.size := Bl hb1 (by first | assumption | (simp; done) | (simp; omega)); have hz1 : w.heap.size + 1 < w1.heap.size := Bl hb1 (by first | assumption | (simp; done) | (simp; omega)); have hz2 : w.heap.size + 1 + 1 < w1.heap.size := Bl hb1 (by first | assumption | (simp; done) | (simp; omega))))
      go_ret
      exact ⟨rfl, (by repeat (first | exact Below.refl _ _ | apply Ba | apply Bd | apply Bn | (refine Bt ?_ (by assumption)) | (refine Bs ?_ (by first | (simp; done) | (simp; omega)) _)))⟩

end Go.Proofs.YtnmjpjjomonbnaaDoor
