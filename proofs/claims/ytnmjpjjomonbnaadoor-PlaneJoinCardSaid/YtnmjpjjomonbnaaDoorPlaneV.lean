/-
  The calls of package plane and of its reference, second part: Has, Meets, Inside, Of, and the reference's own; 'alive'.
-/
import Derived.Test.YtnmjpjjomonbnaaDoorPlaneW
namespace Go.Proofs.YtnmjpjjomonbnaaDoor
set_option linter.unusedSimpArgs false
set_option linter.unusedVariables false
open Go.RowKit

def rrightB (a b c d : Int) : Bool := inB a 4194304 && (inB c 4194304 && (inB b 4194304 && (inB d 4194304 && (decide (a ≤ c) && decide (b ≤ d)))))

theorem rright_any (a b c d : Int) (w : World) :
    Calls Tryd.prog 21 #[.agg #[.int .i64 a, .int .i64 b, .int .i64 c, .int .i64 d]] w fun e w' => e = .returned (.bool (rrightB a b c d)) ∧ Below w.heap.size w w' := by
  go_enter Tryd.func21, Tryd.ntmps21
  go_wp2_with (go_at_call 38; refine (in_any _ _ _ (by omega) (by omega)).mono ?_; rintro e w' ⟨rfl, rfl⟩)
  all_goals (go_ret; exact ⟨ret_bool (by simp [rrightB, *] <;> omega), (by repeat (first | exact Below.refl _ _ | apply Ba | apply Bd | apply Bn | (refine Bt ?_ (by assumption)) | (refine Bs ?_ (by first | (simp; done) | (simp; omega)) _)))⟩)

def hasB (a b c d x y : Int) : Bool := rightB a b c d && (btw x a c && btw y b d)

theorem has_any (a b c d x y : Int) (w : World) :
    Calls Tryd.prog 26 #[.agg #[.int .i64 a, .int .i64 b, .int .i64 c, .int .i64 d], .agg #[.int .i64 x, .int .i64 y]] w fun e w' => e = .returned (.bool (hasB a b c d x y)) ∧ Below w.heap.size w w' := by
  go_enter Tryd.func26, Tryd.ntmps26
  go_wp2_with (first | (go_at_call 20; refine (right_any _ _ _ _ _).mono ?_; rintro e w1 ⟨rfl, hb1⟩; obtain ⟨hc1, hf1⟩ := bcell hb1; obtain ⟨hz1, hy1⟩ := bz2 hb1) | (go_at_call 41; refine (between_any _ _ _ _).mono ?_; rintro e w' ⟨rfl, rfl⟩))
  all_goals (go_ret; exact ⟨ret_bool (by simp [hasB, *] <;> omega), (by repeat (first | exact Below.refl _ _ | apply Ba | apply Bd | apply Bn | (refine Bt ?_ (by assumption)) | (refine Bs ?_ (by first | (simp; done) | (simp; omega)) _)))⟩)

def rhasB (a b c d x y : Int) : Bool := decide (a ≤ x) && (decide (x ≤ c) && (decide (b ≤ y) && decide (y ≤ d)))

theorem rhas_any (a b c d x y : Int) (w : World) :
    Calls Tryd.prog 22 #[.agg #[.int .i64 a, .int .i64 b, .int .i64 c, .int .i64 d], .agg #[.int .i64 x, .int .i64 y]] w fun e w' => e = .returned (.bool (rhasB a b c d x y)) ∧ Below w.heap.size w w' := by
  go_enter Tryd.func22, Tryd.ntmps22
  go_wp2
  all_goals (go_ret; exact ⟨ret_bool (by simp [rhasB, *] <;> omega), (by repeat (first | exact Below.refl _ _ | apply Ba | apply Bd | apply Bn | (refine Bt ?_ (by assumption)) | (refine Bs ?_ (by first | (simp; done) | (simp; omega)) _)))⟩)

def rmeetsB (a b c d p q r s : Int) : Bool := !(decide (c < p) || (decide (r < a) || (decide (d < q) || decide (s < b))))

theorem rmeets_any (a b c d p q r s : Int) (w : World) :
    Calls Tryd.prog 24 #[.agg #[.int .i64 a, .int .i64 b, .int .i64 c, .int .i64 d], .agg #[.int .i64 p, .int .i64 q, .int .i64 r, .int .i64 s]] w fun e w' => e = .returned (.bool (rmeetsB a b c d p q r s)) ∧ Below w.heap.size w w' := by
  go_enter Tryd.func24, Tryd.ntmps24
  go_wp2
  all_goals (go_ret; exact ⟨ret_bool (by simp [rmeetsB, *, Bool.and_assoc]), (by repeat (first | exact Below.refl _ _ | apply Ba | apply Bd | apply Bn | (refine Bt ?_ (by assumption)) | (refine Bs ?_ (by first | (simp; done) | (simp; omega)) _)))⟩)

def meetsB (a b c d p q r s : Int) : Bool := rightB a b c d && (rightB p q r s && (decide (a ≤ r) && (decide (p ≤ c) && (decide (b ≤ s) && decide (q ≤ d)))))

set_option maxHeartbeats 400000 in
theorem meets_any (a b c d p q r s : Int) (w : World) :
    Calls Tryd.prog 23 #[.agg #[.int .i64 a, .int .i64 b, .int .i64 c, .int .i64 d], .agg #[.int .i64 p, .int .i64 q, .int .i64 r, .int .i64 s]] w fun e w' => e = .returned (.bool (meetsB a b c d p q r s)) ∧ Below w.heap.size w w' := by
  go_enter Tryd.func23, Tryd.ntmps23
  go_wp2_with (first | (go_at_call_of 20 (Value.agg #[.int .i64 a, .int .i64 b, .int .i64 c, .int .i64 d]); refine (right_any _ _ _ _ _).mono ?_; rintro e w1 ⟨rfl, hb1⟩; obtain ⟨hc1, hf1⟩ := bcell hb1; obtain ⟨hz1, hy1⟩ := bz2 hb1) | (go_at_call_of 20 (Value.agg #[.int .i64 p, .int .i64 q, .int .i64 r, .int .i64 s]); refine (right_any _ _ _ _ _).mono ?_; rintro e w2 ⟨rfl, hb2⟩; obtain ⟨hc2, hf2⟩ := bcell hb2; have hz2 : w.heap.size < w2.heap.size := (Nat.lt_of_lt_of_le hz1 hb2.size); have hy2 : w.heap.size + 1 < w2.heap.size := (Nat.lt_of_lt_of_le hy1 hb2.size)))
  all_goals (go_ret; exact ⟨ret_bool (by simp [meetsB, *] <;> omega), (by repeat (first | exact Below.refl _ _ | apply Ba | apply Bd | apply Bn | (refine Bt ?_ (by assumption)) | (refine Bs ?_ (by first | (simp; done) | (simp; omega)) _)))⟩)

def insideB (a b c d p q r s : Int) : Bool := rightB a b c d && (hasB p q r s a b && hasB p q r s c d)

set_option maxHeartbeats 400000 in
theorem inside_any (a b c d p q r s : Int) (w : World) :
    Calls Tryd.prog 25 #[.agg #[.int .i64 a, .int .i64 b, .int .i64 c, .int .i64 d], .agg #[.int .i64 p, .int .i64 q, .int .i64 r, .int .i64 s]] w fun e w' => e = .returned (.bool (insideB a b c d p q r s)) ∧ Below w.heap.size w w' := by
  go_enter Tryd.func25, Tryd.ntmps25
  go_wp2_with (first
    | (go_at_call 40; refine (corners_any _ _ _ _ _).mono ?_; rintro e w1 ⟨rfl, hb1⟩; obtain ⟨hc1, hf1⟩ := bcell hb1; obtain ⟨hz1, hy1⟩ := bz2 hb1)
    | (go_at_call 20; refine (right_any _ _ _ _ _).mono ?_; rintro e w2 ⟨rfl, hb2⟩; obtain ⟨hc2, hf2⟩ := bcell hb2; obtain ⟨hz2, hy2⟩ := bz2 hb2; have hx2 : w.heap.size < w2.heap.size := (Nat.lt_trans hz1 hz2); have hu2 : w.heap.size + 1 < w2.heap.size := (Nat.lt_trans hy1 hz2))
    | (go_at_call 26; refine (has_any _ _ _ _ _ _ _).mono ?_; rintro e w3 ⟨rfl, hb3⟩; obtain ⟨hc3, hf3⟩ := bcell hb3; have hz3 : w1.heap.size < w3.heap.size := (Nat.lt_of_lt_of_le hz2 hb3.size); have hy3 : w1.heap.size + 1 < w3.heap.size := (Nat.lt_of_lt_of_le hy2 hb3.size); have hx3 : w.heap.size < w3.heap.size := (Nat.lt_trans hz1 hz3); have hu3 : w.heap.size + 1 < w3.heap.size := (Nat.lt_trans hy1 hz3))
    | (go_at_call 26; refine (has_any _ _ _ _ _ _ _).mono ?_; rintro e w4 ⟨rfl, hb4⟩))
  all_goals (go_ret; exact ⟨ret_bool (by simp [insideB, *] <;> omega), (by repeat (first | exact Below.refl _ _ | apply Ba | apply Bd | apply Bn | (refine Bt ?_ (by assumption)) | (refine Bs ?_ (by first | (simp; done) | (simp; omega)) _)))⟩)

def smallB (x y : Int) : Bool := inB x 1048576 && inB y 1048576

theorem small_any (x y : Int) (w : World) :
    Calls Tryd.prog 35 #[.agg #[.int .i64 x, .int .i64 y]] w fun e w' => e = .returned (.bool (smallB x y)) ∧ Below w.heap.size w w' := by
  go_enter Tryd.func35, Tryd.ntmps35
  go_wp2_with (go_at_call 38; refine (in_any _ _ _ (by omega) (by omega)).mono ?_; rintro e w' ⟨rfl, rfl⟩)
  all_goals (go_ret; exact ⟨ret_bool (by simp [smallB, *] <;> omega), (by repeat (first | exact Below.refl _ _ | apply Ba | apply Bd | apply Bn | (refine Bt ?_ (by assumption)) | (refine Bs ?_ (by first | (simp; done) | (simp; omega)) _)))⟩)

/-! ### Of, of plane and of the reference; 'alive'. -/
def ofB (x y u v : Int) : Bool := bothB x y (-1048576) 1048576 && bothB u v 0 1048576

theorem ofB_bd {x y u v : Int} (h : ofB x y u v = true) : (-1048576 ≤ x ∧ x ≤ 1048576) ∧ (-1048576 ≤ y ∧ y ≤ 1048576) ∧ (0 ≤ u ∧ u ≤ 1048576) ∧ (0 ≤ v ∧ v ≤ 1048576) := by
  simp [ofB, bothB, btw] at h
  omega

set_option maxHeartbeats 400000 in
theorem of_yes (x y u v : Int) (w : World) (h : ofB x y u v = true) :
    Calls Tryd.prog 15 #[.agg #[.int .i64 x, .int .i64 y], .agg #[.int .i64 u, .int .i64 v]] w fun e w' => e = .returned (.tuple #[.agg #[.int .i64 (x - u), .int .i64 (y - v), .int .i64 (x + u), .int .i64 (y + v)], .nilIface]) ∧ Below w.heap.size w w' := by
  obtain ⟨⟨a1, a2⟩, ⟨a3, a4⟩, ⟨a5, a6⟩, a7, a8⟩ := ofB_bd h
  have k1 : bothB x y (-1048576) 1048576 = true := by simp [ofB] at h; exact h.1
  have k2 : bothB u v 0 1048576 = true := by simp [ofB] at h; exact h.2
  clear h
  go_enter Tryd.func15, Tryd.ntmps15
  go_wp2_with (first
    | (go_at_call_of 37 (Value.agg #[.int .i64 x, .int .i64 y]); refine (both_any _ _ _ _ _).mono ?_; rintro e w1 ⟨rfl, hb1⟩; obtain ⟨hc1, hf1⟩ := bcell hb1; obtain ⟨hz1, hy1, hx1⟩ := bz3 hb1)
    | (go_at_call_of 37 (Value.agg #[.int .i64 u, .int .i64 v]); refine (both_any _ _ _ _ _).mono ?_; rintro e w2 ⟨rfl, hb2⟩; obtain ⟨hc2, hf2⟩ := bcell hb2; have hz2 : w.heap.size < w2.heap.size := (Nat.lt_of_lt_of_le hz1 hb2.size); have hy2 : w.heap.size + 1 < w2.heap.size := (Nat.lt_of_lt_of_le hy1 hb2.size); have hx2 : w.heap.size + 1 + 1 < w2.heap.size := (Nat.lt_of_lt_of_le hx1 hb2.size)))
  exact bodyPost_ret (v := .tuple #[.agg #[.int .i64 (x - u), .int .i64 (y - v), .int .i64 (x + u), .int .i64 (y + v)], .nilIface]) (by simp [results, Tryd.results15, go_sem, *]) rfl ⟨rfl, (by repeat (first | exact Below.refl _ _ | apply Ba | apply Bd | apply Bn | (refine Bt ?_ (by assumption)) | (refine Bs ?_ (by first | (simp; done) | (simp; omega)) _)))⟩

set_option maxHeartbeats 400000 in
theorem of_no (x y u v : Int) (w : World) (a : Addr) (hg : w.cell? ⟨0, 0, none⟩ = some (.iface 82 (.pointer (some a)))) (h : ofB x y u v = false) :
    Calls Tryd.prog 15 #[.agg #[.int .i64 x, .int .i64 y], .agg #[.int .i64 u, .int .i64 v]] w fun e w' => e = .returned (.tuple #[.agg #[.int .i64 0, .int .i64 0, .int .i64 0, .int .i64 0], .iface 82 (.pointer (some a))]) ∧ Below w.heap.size w w' := by
  have hlt : 0 < w.heap.size := cell_lt hg
  cases k1 : bothB x y (-1048576) 1048576
  · clear h
    go_enter Tryd.func15, Tryd.ntmps15
    go_wp2_with (go_at_call 37; refine (both_any _ _ _ _ _).mono ?_; rintro e w1 ⟨rfl, hb1⟩; obtain ⟨hc1, hf1⟩ := bcell hb1; obtain ⟨hz1, hy1, hx1⟩ := bz3 hb1; have hl1 : 0 < w1.heap.size := (Nat.lt_trans hlt hz1))
    go_region
    go_wp2
    exact bodyPost_ret (v := .tuple #[.agg #[.int .i64 0, .int .i64 0, .int .i64 0, .int .i64 0], .iface 82 (.pointer (some a))]) (by simp [results, Tryd.results15, go_sem, *]) rfl ⟨rfl, (by repeat (first | exact Below.refl _ _ | apply Ba | apply Bd | apply Bn | (refine Bt ?_ (by assumption)) | (refine Bs ?_ (by first | (simp; done) | (simp; omega)) _)))⟩
  · have k2 : bothB u v 0 1048576 = false := by simpa [ofB, k1] using h
    clear h
    go_enter Tryd.func15, Tryd.ntmps15
    go_wp2_with (first
      | (go_at_call_of 37 (Value.agg #[.int .i64 x, .int .i64 y]); refine (both_any _ _ _ _ _).mono ?_; rintro e w1 ⟨rfl, hb1⟩; obtain ⟨hc1, hf1⟩ := bcell hb1; obtain ⟨hz1, hy1, hx1⟩ := bz3 hb1)
      | (go_at_call_of 37 (Value.agg #[.int .i64 u, .int .i64 v]); refine (both_any _ _ _ _ _).mono ?_; rintro e w2 ⟨rfl, hb2⟩; obtain ⟨hc2, hf2⟩ := bcell hb2; have hz2 : w.heap.size < w2.heap.size := (Nat.lt_of_lt_of_le hz1 hb2.size); have hy2 : w.heap.size + 1 < w2.heap.size := (Nat.lt_of_lt_of_le hy1 hb2.size); have hx2 : w.heap.size + 1 + 1 < w2.heap.size := (Nat.lt_of_lt_of_le hx1 hb2.size); have hl1 : 0 < w1.heap.size := (Nat.lt_trans hlt hz1)))
    go_region
    go_wp2
    exact bodyPost_ret (v := .tuple #[.agg #[.int .i64 0, .int .i64 0, .int .i64 0, .int .i64 0], .iface 82 (.pointer (some a))]) (by simp [results, Tryd.results15, go_sem, *]) rfl ⟨rfl, (by repeat (first | exact Below.refl _ _ | apply Ba | apply Bd | apply Bn | (refine Bt ?_ (by assumption)) | (refine Bs ?_ (by first | (simp; done) | (simp; omega)) _)))⟩

/-- The chapter's example: it holds. -/
theorem alive_any (w : World) : Calls Tryd.prog 14 #[] w fun e w' => e = .returned (.bool true) ∧ Below w.heap.size w w' := by
  have H : ofB 3 4 1 2 = true := by decide
  go_enter Tryd.func14, Tryd.ntmps14
  go_wp2_with (go_at_call 15; refine (of_yes _ _ _ _ _ H).mono ?_; rintro e w1 ⟨rfl, hb1⟩)
  go_ret
  exact ⟨rfl, (by repeat (first | exact Below.refl _ _ | apply Ba | apply Bd | apply Bn | (refine Bt ?_ (by assumption)) | (refine Bs ?_ (by first | (simp; done) | (simp; omega)) _)))⟩

end Go.Proofs.YtnmjpjjomonbnaaDoor
