/-
  The calls of package plane and of its reference, one contract each: what each answers, and that no old memory is changed.
-/
import Derived.Test.YtnmjpjjomonbnaaDoorProg
import Derived.WalkKit
import Derived.WalkSpells
import Derived.WalkLawsBesides
import Derived.Lib.Hide
import Derived.KernelRfl
import Derived.Deep.RegionHeld3
import Derived.Deep.QuietTactic
import Derived.BigQuiet
import Derived.RegionTactic
namespace Go.Proofs.YtnmjpjjomonbnaaDoor
set_option linter.unusedSimpArgs false
set_option linter.unusedVariables false
open Go.RowKit

theorem ret_bool {a b : Bool} (h : a = b) : Ending.returned (.bool a) = Ending.returned (.bool b) := by rw [h]
theorem ret_int {a b : Int} (h : a = b) : Ending.returned (.int .i64 a) = Ending.returned (.int .i64 b) := by rw [h]

theorem bool_is {P : Program} {f : FuncId} {args : Array Value} {w : World} {B v : Bool} (h : B = v) (c : Calls P f args w fun e w' => e = .returned (.bool B) ∧ Below w.heap.size w w') :
    Calls P f args w fun e w' => e = .returned (.bool v) ∧ Below w.heap.size w w' := by
  subst h
  exact c

/-! ### Steps of 'Below' from the heap's own size on: no side goals. -/
theorem Bt {a w w' : World} (h : Below a.heap.size a w) (k : Below w.heap.size w w') : Below a.heap.size a w' := h.trans (k.mono h.size)
theorem Ba {a w : World} (h : Below a.heap.size a w) (o : Obj) : Below a.heap.size a (w.alloc o) := h.alloc h.size o
theorem Bd {a w : World} (h : Below a.heap.size a w) : Below a.heap.size a w.drew := h.drew
theorem Bn {a w : World} {n : Nat} (h : Below a.heap.size a w) : Below a.heap.size a (w.drewN n) := ⟨h.os, h.tape, h.output, h.size, h.block⟩
theorem Bs {a w : World} {p : Addr} (h : Below a.heap.size a w) (hp : a.heap.size ≤ p.block) (u : Value) : Below a.heap.size a (w.setCell p u) := h.setCell hp u
theorem cell_lt {w : World} {b o : Nat} {v : Value} (h : w.cell? ⟨b, o, none⟩ = some v) : b < w.heap.size := by
  rcases Nat.lt_or_ge b w.heap.size with h' | h'
  · exact h'
  · simp [World.cell?, Array.getElem?_eq_none h'] at h
theorem bcell {W w1 : World} (hb : Below W.heap.size W w1) : (∀ b o, b < W.heap.size → w1.cell? ⟨b, o, none⟩ = W.cell? ⟨b, o, none⟩) ∧ (∀ b o, b < W.heap.size → w1.frozen? ⟨b, o, none⟩ = W.frozen? ⟨b, o, none⟩) :=
  ⟨fun b o h => hb.cell (p := ⟨b, o, none⟩) h, fun b o h => hb.frozen (p := ⟨b, o, none⟩) h⟩

theorem Bc {W W1 : World} {b o : Nat} {v : Value} (hb : Below W.heap.size W W1) (hl : b < W.heap.size) (hc : W.cell? ⟨b, o, none⟩ = some v) : W1.cell? ⟨b, o, none⟩ = some v := (hb.cell (p := ⟨b, o, none⟩) hl).trans hc
theorem Bl {W W1 : World} {b : Nat} (hb : Below W.heap.size W W1) (hl : b < W.heap.size) : b < W1.heap.size := Nat.lt_of_lt_of_le hl hb.size
/-- What a region that draws its order keeps: all that lay when it began. -/
theorem keep0 (W0 : World) : Below W0.heap.size W0 W0.drew ∧ ∀ b o, b < W0.heap.size → W0.drew.cell? ⟨b, o, none⟩ = W0.cell? ⟨b, o, none⟩ := ⟨Bd (Below.refl _ _), fun _ _ _ => rfl⟩
theorem keepB {W0 w1 w2 : World} (h : Below W0.heap.size W0 w1 ∧ ∀ b o, b < W0.heap.size → w1.cell? ⟨b, o, none⟩ = W0.cell? ⟨b, o, none⟩) (hb : Below w1.heap.size w1 w2) :
    Below W0.heap.size W0 w2 ∧ ∀ b o, b < W0.heap.size → w2.cell? ⟨b, o, none⟩ = W0.cell? ⟨b, o, none⟩ :=
  ⟨Bt h.1 hb, fun b o hl => (hb.cell (p := ⟨b, o, none⟩) (Bl h.1 hl)).trans (h.2 b o hl)⟩
theorem bz1 {a w : World} {o1 : Obj} (h : Below (a.alloc o1).heap.size (a.alloc o1) w) : a.heap.size < w.heap.size := by
  have := h.size
  simp at this
  omega
theorem bz2 {a w : World} {o1 o2 : Obj} (h : Below ((a.alloc o1).alloc o2).heap.size ((a.alloc o1).alloc o2) w) : a.heap.size < w.heap.size ∧ a.heap.size + 1 < w.heap.size := by
  have := h.size
  simp at this
  omega
theorem bz3 {a w : World} {o1 o2 o3 : Obj} (h : Below (((a.alloc o1).alloc o2).alloc o3).heap.size (((a.alloc o1).alloc o2).alloc o3) w) : a.heap.size < w.heap.size ∧ a.heap.size + 1 < w.heap.size ∧ a.heap.size + 1 + 1 < w.heap.size := by
  have := h.size
  simp at this
  omega

def btw (n lo hi : Int) : Bool := decide (lo ≤ n) && decide (n ≤ hi)

theorem between_any (n lo hi : Int) (w : World) :
    Calls Tryd.prog 41 #[.int .i64 n, .int .i64 lo, .int .i64 hi] w fun e w' => e = .returned (.bool (btw n lo hi)) ∧ w = w' := by
  go_enter Tryd.func41, Tryd.ntmps41
  go_wp2
  all_goals (go_ret; exact ⟨ret_bool (by simp [btw, *] <;> omega), rfl⟩)

def inB (n m : Int) : Bool := decide (n ≤ m) && decide (-m ≤ n)

theorem in_any (n m : Int) (w : World) (h0 : 0 ≤ m) (h1 : m ≤ 4611686018427387904) :
    Calls Tryd.prog 38 #[.int .i64 n, .int .i64 m] w fun e w' => e = .returned (.bool (inB n m)) ∧ w = w' := by
  go_enter Tryd.func38, Tryd.ntmps38
  go_wp2
  all_goals (go_ret; exact ⟨ret_bool (by simp [inB, *] <;> omega), rfl⟩)

def bothB (x y lo hi : Int) : Bool := btw x lo hi && btw y lo hi

theorem both_any (x y lo hi : Int) (w : World) :
    Calls Tryd.prog 37 #[.agg #[.int .i64 x, .int .i64 y], .int .i64 lo, .int .i64 hi] w fun e w' => e = .returned (.bool (bothB x y lo hi)) ∧ Below w.heap.size w w' := by
  go_enter Tryd.func37, Tryd.ntmps37
  go_wp2_with (go_at_call 41; refine (between_any _ _ _ _).mono ?_; rintro e w' ⟨rfl, rfl⟩)
  all_goals (go_ret; exact ⟨ret_bool (by simp [bothB, *]), (by repeat (first | exact Below.refl _ _ | apply Ba | apply Bd | apply Bn | (refine Bt ?_ (by assumption)) | (refine Bs ?_ (by first | (simp; done) | (simp; omega)) _)))⟩)

def reachB (x y : Int) : Bool := bothB x y (-4194304) 4194304

theorem reach_any (x y : Int) (w : World) :
    Calls Tryd.prog 18 #[.agg #[.int .i64 x, .int .i64 y]] w fun e w' => e = .returned (.bool (reachB x y)) ∧ Below w.heap.size w w' := by
  go_enter Tryd.func18, Tryd.ntmps18
  go_wp2_with (go_at_call 37; refine (both_any _ _ _ _ _).mono ?_; rintro e w' ⟨rfl, hb⟩)
  go_ret
  exact ⟨rfl, (by repeat (first | exact Below.refl _ _ | apply Ba | apply Bd | apply Bn | (refine Bt ?_ (by assumption)) | (refine Bs ?_ (by first | (simp; done) | (simp; omega)) _)))⟩

def rreachB (x y : Int) : Bool := inB x 4194304 && inB y 4194304

theorem rreach_any (x y : Int) (w : World) :
    Calls Tryd.prog 19 #[.agg #[.int .i64 x, .int .i64 y]] w fun e w' => e = .returned (.bool (rreachB x y)) ∧ Below w.heap.size w w' := by
  go_enter Tryd.func19, Tryd.ntmps19
  go_wp2_with (go_at_call 38; refine (in_any _ _ _ (by omega) (by omega)).mono ?_; rintro e w' ⟨rfl, rfl⟩)
  all_goals (go_ret; exact ⟨ret_bool (by simp [rreachB, *]), (by repeat (first | exact Below.refl _ _ | apply Ba | apply Bd | apply Bn | (refine Bt ?_ (by assumption)) | (refine Bs ?_ (by first | (simp; done) | (simp; omega)) _)))⟩)

theorem corners_any (a b c d : Int) (w : World) :
    Calls Tryd.prog 40 #[.agg #[.int .i64 a, .int .i64 b, .int .i64 c, .int .i64 d]] w fun e w' => e = .returned (.tuple #[.agg #[.int .i64 a, .int .i64 b], .agg #[.int .i64 c, .int .i64 d]]) ∧ Below w.heap.size w w' := by
  go_enter Tryd.func40, Tryd.ntmps40
  go_wp2
  go_region
  go_wp2
  exact bodyPost_ret (v := .tuple #[.agg #[.int .i64 a, .int .i64 b], .agg #[.int .i64 c, .int .i64 d]]) (by simp [results, Tryd.results40, go_sem]) rfl ⟨rfl, (by repeat (first | exact Below.refl _ _ | apply Ba | apply Bd | apply Bn | (refine Bt ?_ (by assumption)) | (refine Bs ?_ (by first | (simp; done) | (simp; omega)) _)))⟩

def rightB (a b c d : Int) : Bool := reachB a b && (reachB c d && (decide (a ≤ c) && decide (b ≤ d)))

theorem right_any (a b c d : Int) (w : World) :
    Calls Tryd.prog 20 #[.agg #[.int .i64 a, .int .i64 b, .int .i64 c, .int .i64 d]] w fun e w' => e = .returned (.bool (rightB a b c d)) ∧ Below w.heap.size w w' := by
  go_enter Tryd.func20, Tryd.ntmps20
  go_wp2_with (first | (go_at_call 40; refine (corners_any _ _ _ _ _).mono ?_; rintro e w1 ⟨rfl, hb1⟩; obtain ⟨hc1, hf1⟩ := bcell hb1) | (go_at_call_of 18 (Value.agg #[.int .i64 a, .int .i64 b]); refine (reach_any _ _ _).mono ?_; rintro e w2 ⟨rfl, hb2⟩; obtain ⟨hc2, hf2⟩ := bcell hb2; obtain ⟨hz2, hy2⟩ := bz2 hb2) | (go_at_call_of 18 (Value.agg #[.int .i64 c, .int .i64 d]); refine (reach_any _ _ _).mono ?_; rintro e w3 ⟨rfl, hb3⟩; obtain ⟨hc3, hf3⟩ := bcell hb3))
  all_goals (go_ret; exact ⟨ret_bool (by simp [rightB, *] <;> omega), (by repeat (first | exact Below.refl _ _ | apply Ba | apply Bd | apply Bn | (refine Bt ?_ (by assumption)) | (refine Bs ?_ (by first | (simp; done) | (simp; omega)) _)))⟩)

end Go.Proofs.YtnmjpjjomonbnaaDoor
