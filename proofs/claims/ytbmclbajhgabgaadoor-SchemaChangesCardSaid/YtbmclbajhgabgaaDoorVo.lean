/-
  plane.Of and the reference's Of of a right position and a right extent; Box and Blocks (written by mkvo.py).
-/
import Derived.Test.YtbmclbajhgabgaaDoorVf
namespace Go.Proofs.YtbmclbajhgabgaaDoor
set_option linter.unusedSimpArgs false
set_option linter.unusedVariables false
open Go.RowKit Go.Sort Go.Lib Go.Shelf

def btw (n lo hi : Int) : Bool := decide (lo ≤ n) && decide (n ≤ hi)
theorem between_any (n lo hi : Int) (w : World) : Calls Tryd.prog 79 #[.int .i64 n, .int .i64 lo, .int .i64 hi] w fun e w' => e = .returned (.bool (btw n lo hi)) ∧ w = w' := by
  go_enter Tryd.func79, Tryd.ntmps79
  go_wp2
  all_goals (go_ret; exact ⟨ret_bool (by simp [btw, *] <;> omega), rfl⟩)
def inB (n m : Int) : Bool := decide (n ≤ m) && decide (-m ≤ n)
theorem pin_any (n m : Int) (w : World) (h0 : 0 ≤ m) (h1 : m ≤ 4611686018427387904) : Calls Tryd.prog 63 #[.int .i64 n, .int .i64 m] w fun e w' => e = .returned (.bool (inB n m)) ∧ w = w' := by
  go_enter Tryd.func63, Tryd.ntmps63
  go_wp2
  all_goals (go_ret; exact ⟨ret_bool (by simp [inB, *] <;> omega), rfl⟩)
def bothB (x y lo hi : Int) : Bool := btw x lo hi && btw y lo hi
theorem both_any (x y lo hi : Int) (w : World) : Calls Tryd.prog 62 #[.agg #[.int .i64 x, .int .i64 y], .int .i64 lo, .int .i64 hi] w fun e w' => e = .returned (.bool (bothB x y lo hi)) ∧ Gr w w' := by
  go_enter Tryd.func62, Tryd.ntmps62
  go_wp2_with (go_at_call 79; refine (between_any _ _ _ _).mono ?_; rintro e w' ⟨rfl, rfl⟩)
  all_goals (go_ret; exact ⟨ret_bool (by simp [bothB, *]), (by repeat (first | with_reducible exact Gr.refl _ | with_reducible assumption | with_reducible apply Gr.alloc | with_reducible apply Gr.drewN | with_reducible apply Gr.drew | with_reducible apply Gr.grow | (with_reducible refine Gr.trans ?_ (by assumption))))⟩)
theorem bz3 {a w : World} {o1 o2 o3 : Obj} (h : RowKit.Below (((a.alloc o1).alloc o2).alloc o3).heap.size (((a.alloc o1).alloc o2).alloc o3) w) : a.heap.size < w.heap.size ∧ a.heap.size + 1 < w.heap.size ∧ a.heap.size + 1 + 1 < w.heap.size := by
  have := h.size
  simp at this
  omega
/-- A right position and a right extent. -/
def okPE (x y u v : Int) : Prop := (-1048576 ≤ x ∧ x ≤ 1048576) ∧ (-1048576 ≤ y ∧ y ≤ 1048576) ∧ (0 ≤ u ∧ u ≤ 1048576) ∧ (0 ≤ v ∧ v ≤ 1048576)

set_option maxHeartbeats 1000000 in
theorem of_yes (x y u v : Int) (w : World) (h : okPE x y u v) :
    Calls Tryd.prog 47 #[.agg #[.int .i64 x, .int .i64 y], .agg #[.int .i64 u, .int .i64 v]] w fun e w' => e = .returned (.tuple #[.agg #[.int .i64 (x - u), .int .i64 (y - v), .int .i64 (x + u), .int .i64 (y + v)], .nilIface]) ∧ RowKit.Below w.heap.size w w' := by
  obtain ⟨⟨a1, a2⟩, ⟨a3, a4⟩, ⟨a5, a6⟩, a7, a8⟩ := h
  have k1 : bothB x y (-1048576) 1048576 = true := by simp [bothB, btw, *]
  have k2 : bothB u v 0 1048576 = true := by simp [bothB, btw, *]
  go_enter Tryd.func47, Tryd.ntmps47
  go_wp2_with (first
    | (go_at_call_of 62 (Value.agg #[.int .i64 x, .int .i64 y]); refine (both_any _ _ _ _ _).mono ?_; rintro e w1 ⟨rfl, hg1⟩; have hb1 := hg1.below; clear hg1; obtain ⟨hc1, hf1⟩ := bcell hb1; obtain ⟨hz1, hy1, hx1⟩ := bz3 hb1)
    | (go_at_call_of 62 (Value.agg #[.int .i64 u, .int .i64 v]); refine (both_any _ _ _ _ _).mono ?_; rintro e w2 ⟨rfl, hg2⟩; have hb2 := hg2.below; clear hg2; obtain ⟨hc2, hf2⟩ := bcell hb2; have hz2 : w.heap.size < w2.heap.size := (Nat.lt_of_lt_of_le hz1 hb2.size); have hy2 : w.heap.size + 1 < w2.heap.size := (Nat.lt_of_lt_of_le hy1 hb2.size); have hx2 : w.heap.size + 1 + 1 < w2.heap.size := (Nat.lt_of_lt_of_le hx1 hb2.size)))
  exact bodyPost_ret (v := .tuple #[.agg #[.int .i64 (x - u), .int .i64 (y - v), .int .i64 (x + u), .int .i64 (y + v)], .nilIface]) (by simp [results, Tryd.results47, go_sem, *]) rfl ⟨rfl, (by repeat (first | with_reducible exact Below.refl _ _ | with_reducible assumption | with_reducible apply Ba | with_reducible apply Bd | with_reducible apply Bn | with_reducible apply Bg | (with_reducible refine Bs ?_ (by first | (simp; done) | (simp; omega)) _) | (with_reducible refine Bt ?_ (by assumption)) | (with_reducible refine Bt ?_ (Gr.below (by assumption)))))⟩

set_option maxHeartbeats 1000000 in
theorem rof_yes (x y u v : Int) (w : World) (h : okPE x y u v) :
    Calls Tryd.prog 48 #[.agg #[.int .i64 x, .int .i64 y], .agg #[.int .i64 u, .int .i64 v]] w fun e w' => e = .returned (.tuple #[.agg #[.int .i64 (x - u), .int .i64 (y - v), .int .i64 (x + u), .int .i64 (y + v)], .bool true]) ∧ RowKit.Below w.heap.size w w' := by
  obtain ⟨⟨a1, a2⟩, ⟨a3, a4⟩, ⟨a5, a6⟩, a7, a8⟩ := h
  have k1 : inB x 1048576 = true := by simp [inB]; omega
  have k2 : inB y 1048576 = true := by simp [inB]; omega
  have k3 : inB u 1048576 = true := by simp [inB]; omega
  have k4 : inB v 1048576 = true := by simp [inB]; omega
  go_enter Tryd.func48, Tryd.ntmps48
  go_wp2_with (go_at_call 63; refine (pin_any _ _ _ (by omega) (by omega)).mono ?_; rintro e w' ⟨rfl, rfl⟩)
  exact bodyPost_ret (v := .tuple #[.agg #[.int .i64 (x - u), .int .i64 (y - v), .int .i64 (x + u), .int .i64 (y + v)], .bool true]) (by simp [results, Tryd.results48, go_sem, *]) rfl ⟨rfl, (by repeat (first | with_reducible exact Below.refl _ _ | with_reducible assumption | with_reducible apply Ba | with_reducible apply Bd | with_reducible apply Bn | with_reducible apply Bg | (with_reducible refine Bs ?_ (by first | (simp; done) | (simp; omega)) _) | (with_reducible refine Bt ?_ (by assumption)) | (with_reducible refine Bt ?_ (Gr.below (by assumption)))))⟩

def boxA (l : List Vl) : Value := match boxV l with | some (a, b, c, d) => .agg #[.int .i64 a, .int .i64 b, .int .i64 c, .int .i64 d] | none => .agg #[.int .i64 0, .int .i64 0, .int .i64 0, .int .i64 0]
def boxB (l : List Vl) : Bool := (boxV l).isSome
theorem boxA_no {l : List Vl} (h : boxV l = none) : boxA l = .agg #[.int .i64 0, .int .i64 0, .int .i64 0, .int .i64 0] := by unfold boxA; rw [h]
theorem boxA_yes {l : List Vl} {a b c d : Int} (h : boxV l = some (a, b, c, d)) : boxA l = .agg #[.int .i64 a, .int .i64 b, .int .i64 c, .int .i64 d] := by unfold boxA; rw [h]

/-- What Find finds of a kind: none, or a component of the row. -/
theorem fnd_cases (l : List Vl) (k : Int) : (findV l k = none ∧ fndV l k = (0, 0, 0) ∧ hasK l k = false) ∨ ∃ a b, findV l k = some (k, a, b) ∧ fndV l k = (k, a, b) ∧ hasK l k = true ∧ (k, a, b) ∈ l := by
  unfold fndV hasK
  cases h : findV l k with
  | none => exact .inl ⟨rfl, rfl, rfl⟩
  | some x =>
    obtain ⟨hm, rfl⟩ := find_some h
    exact .inr ⟨x.2.1, x.2.2, rfl, rfl, rfl, hm⟩

set_option maxHeartbeats 1000000 in
set_option maxRecDepth 100000 in
theorem box_call (l : List Vl) (v : Value) (w : World) (hl : Sl encV w v l) (hr : ∀ x ∈ l, chk x = 0) : Calls Tryd.prog 21 #[v] w fun e w' => e = .returned (.tuple #[boxA l, .bool (boxB l)]) ∧ RowKit.Below w.heap.size w w' := by
  have HL := Lib.hid hl
  have F0 : Hid (∀ W, Sl encV W v l → Calls Tryd.prog 19 #[v, .int .i64 0] W fun e w' => e = .returned (.tuple #[aggV (fndV l 0), .bool (hasK l 0)]) ∧ Gr W w') := fun W h => find_call l v 0 W h
  have F1 : Hid (∀ W, Sl encV W v l → Calls Tryd.prog 19 #[v, .int .i64 1] W fun e w' => e = .returned (.tuple #[aggV (fndV l 1), .bool (hasK l 1)]) ∧ Gr W w') := fun W h => find_call l v 1 W h
  have hbx : boxV l = match findV l 0, findV l 1 with | some p, some e => some (p.2.1 - e.2.1, p.2.2 - e.2.2, p.2.1 + e.2.1, p.2.2 + e.2.2) | _, _ => none := rfl
  have hbb : boxB l = (boxV l).isSome := rfl
  rw [hbb]
  rcases fnd_cases l 0 with ⟨e0, e1, e2⟩ | ⟨a, b, e0, e1, e2, e3⟩
  · have hno : boxV l = none := by rw [hbx, e0]
    rw [boxA_no hno, hno]
    rw [e1, e2] at F0
    rcases fnd_cases l 1 with ⟨d0, d1, d2⟩ | ⟨c, d, d0, d1, d2, d3⟩
    · rw [d1, d2] at F1
      clear hno hbx hbb hr hl e0 e1 e2 d0 d1 d2
      simp only [aggV] at F0 F1
      go_enter Tryd.func21, Tryd.ntmps21
      go_wp2_with fail
      refine Calls.mono (F0.out _ (HL.out.below ?bb)) ?_
      (case bb => exact (by repeat (first | with_reducible exact Below.refl _ _ | with_reducible assumption | with_reducible apply Ba | with_reducible apply Bd | with_reducible apply Bn | with_reducible apply Bg | (with_reducible refine Bs ?_ (by first | (simp; done) | (simp; omega)) _) | (with_reducible refine Bt ?_ (by assumption)) | (with_reducible refine Bt ?_ (Gr.below (by assumption))))))
      rintro e w1 ⟨rfl, hg1⟩
      have y0 : w1.cell? ⟨w.heap.size, 0, none⟩ = some (.int .i64 0) := Bc hg1.below (by simp) (by simp)
      have y1 : w1.cell? ⟨w.heap.size, 1, none⟩ = some (.int .i64 0) := Bc hg1.below (by simp) (by simp)
      have y2 : w1.cell? ⟨w.heap.size, 2, none⟩ = some (.int .i64 0) := Bc hg1.below (by simp) (by simp)
      have y3 : w1.cell? ⟨w.heap.size, 3, none⟩ = some (.int .i64 0) := Bc hg1.below (by simp) (by simp)
      have f0 : w1.frozen? ⟨w.heap.size, 0, none⟩ = false := Bf hg1.below (by simp) (by simp)
      have f1 : w1.frozen? ⟨w.heap.size, 1, none⟩ = false := Bf hg1.below (by simp) (by simp)
      have f2 : w1.frozen? ⟨w.heap.size, 2, none⟩ = false := Bf hg1.below (by simp) (by simp)
      have f3 : w1.frozen? ⟨w.heap.size, 3, none⟩ = false := Bf hg1.below (by simp) (by simp)
      have hl1 : w.heap.size < w1.heap.size := Bl hg1.below (by simp)
      go_wp2_with fail
      refine Calls.mono (F1.out _ (HL.out.below ?bb)) ?_
      (case bb => exact (by repeat (first | with_reducible exact Below.refl _ _ | with_reducible assumption | with_reducible apply Ba | with_reducible apply Bd | with_reducible apply Bn | with_reducible apply Bg | (with_reducible refine Bs ?_ (by first | (simp; done) | (simp; omega)) _) | (with_reducible refine Bt ?_ (by assumption)) | (with_reducible refine Bt ?_ (Gr.below (by assumption))))))
      rintro e w2 ⟨rfl, hg2⟩
      have b2 := (show RowKit.Below w1.heap.size w1 w2 from (by repeat (first | with_reducible exact Below.refl _ _ | with_reducible assumption | with_reducible apply Ba | with_reducible apply Bd | with_reducible apply Bn | with_reducible apply Bg | (with_reducible refine Bs ?_ (by first | (simp; done) | (simp; omega)) _) | (with_reducible refine Bt ?_ (by assumption)) | (with_reducible refine Bt ?_ (Gr.below (by assumption))))))
      have y20 : w2.cell? ⟨w.heap.size, 0, none⟩ = some (.int .i64 0) := Bc b2 hl1 y0
      have y21 : w2.cell? ⟨w.heap.size, 1, none⟩ = some (.int .i64 0) := Bc b2 hl1 y1
      have y22 : w2.cell? ⟨w.heap.size, 2, none⟩ = some (.int .i64 0) := Bc b2 hl1 y2
      have y23 : w2.cell? ⟨w.heap.size, 3, none⟩ = some (.int .i64 0) := Bc b2 hl1 y3
      have f20 : w2.frozen? ⟨w.heap.size, 0, none⟩ = false := Bf b2 hl1 f0
      have f21 : w2.frozen? ⟨w.heap.size, 1, none⟩ = false := Bf b2 hl1 f1
      have f22 : w2.frozen? ⟨w.heap.size, 2, none⟩ = false := Bf b2 hl1 f2
      have f23 : w2.frozen? ⟨w.heap.size, 3, none⟩ = false := Bf b2 hl1 f3
      have hl2 : w.heap.size < w2.heap.size := Bl b2 hl1
      have hm2 : w1.heap.size < w2.heap.size := Bl hg2.below (by simp)
      have v20 : w2.cell? ⟨w1.heap.size, 0, none⟩ = some (.int .i64 0) := Bc hg2.below (by simp) (by simp)
      have v21 : w2.cell? ⟨w1.heap.size, 1, none⟩ = some (.int .i64 0) := Bc hg2.below (by simp) (by simp)
      have v22 : w2.cell? ⟨w1.heap.size, 2, none⟩ = some (.int .i64 0) := Bc hg2.below (by simp) (by simp)
      clear b2
      go_wp2
      exact bodyPost_ret (v := .tuple #[.agg #[.int .i64 0, .int .i64 0, .int .i64 0, .int .i64 0], .bool false]) (by simp [results, Tryd.results21, go_sem, *]) rfl ⟨rfl, (by repeat (first | with_reducible exact Below.refl _ _ | with_reducible assumption | with_reducible apply Ba | with_reducible apply Bd | with_reducible apply Bn | with_reducible apply Bg | (with_reducible refine Bs ?_ (by first | (simp; done) | (simp; omega)) _) | (with_reducible refine Bt ?_ (by assumption)) | (with_reducible refine Bt ?_ (Gr.below (by assumption)))))⟩
    · rw [d1, d2] at F1
      clear hno hbx hbb hr hl e0 e1 e2 d0 d1 d2 d3
      simp only [aggV] at F0 F1
      go_enter Tryd.func21, Tryd.ntmps21
      go_wp2_with fail
      refine Calls.mono (F0.out _ (HL.out.below ?bb)) ?_
      (case bb => exact (by repeat (first | with_reducible exact Below.refl _ _ | with_reducible assumption | with_reducible apply Ba | with_reducible apply Bd | with_reducible apply Bn | with_reducible apply Bg | (with_reducible refine Bs ?_ (by first | (simp; done) | (simp; omega)) _) | (with_reducible refine Bt ?_ (by assumption)) | (with_reducible refine Bt ?_ (Gr.below (by assumption))))))
      rintro e w1 ⟨rfl, hg1⟩
      have y0 : w1.cell? ⟨w.heap.size, 0, none⟩ = some (.int .i64 0) := Bc hg1.below (by simp) (by simp)
      have y1 : w1.cell? ⟨w.heap.size, 1, none⟩ = some (.int .i64 0) := Bc hg1.below (by simp) (by simp)
      have y2 : w1.cell? ⟨w.heap.size, 2, none⟩ = some (.int .i64 0) := Bc hg1.below (by simp) (by simp)
      have y3 : w1.cell? ⟨w.heap.size, 3, none⟩ = some (.int .i64 0) := Bc hg1.below (by simp) (by simp)
      have f0 : w1.frozen? ⟨w.heap.size, 0, none⟩ = false := Bf hg1.below (by simp) (by simp)
      have f1 : w1.frozen? ⟨w.heap.size, 1, none⟩ = false := Bf hg1.below (by simp) (by simp)
      have f2 : w1.frozen? ⟨w.heap.size, 2, none⟩ = false := Bf hg1.below (by simp) (by simp)
      have f3 : w1.frozen? ⟨w.heap.size, 3, none⟩ = false := Bf hg1.below (by simp) (by simp)
      have hl1 : w.heap.size < w1.heap.size := Bl hg1.below (by simp)
      go_wp2_with fail
      refine Calls.mono (F1.out _ (HL.out.below ?bb)) ?_
      (case bb => exact (by repeat (first | with_reducible exact Below.refl _ _ | with_reducible assumption | with_reducible apply Ba | with_reducible apply Bd | with_reducible apply Bn | with_reducible apply Bg | (with_reducible refine Bs ?_ (by first | (simp; done) | (simp; omega)) _) | (with_reducible refine Bt ?_ (by assumption)) | (with_reducible refine Bt ?_ (Gr.below (by assumption))))))
      rintro e w2 ⟨rfl, hg2⟩
      have b2 := (show RowKit.Below w1.heap.size w1 w2 from (by repeat (first | with_reducible exact Below.refl _ _ | with_reducible assumption | with_reducible apply Ba | with_reducible apply Bd | with_reducible apply Bn | with_reducible apply Bg | (with_reducible refine Bs ?_ (by first | (simp; done) | (simp; omega)) _) | (with_reducible refine Bt ?_ (by assumption)) | (with_reducible refine Bt ?_ (Gr.below (by assumption))))))
      have y20 : w2.cell? ⟨w.heap.size, 0, none⟩ = some (.int .i64 0) := Bc b2 hl1 y0
      have y21 : w2.cell? ⟨w.heap.size, 1, none⟩ = some (.int .i64 0) := Bc b2 hl1 y1
      have y22 : w2.cell? ⟨w.heap.size, 2, none⟩ = some (.int .i64 0) := Bc b2 hl1 y2
      have y23 : w2.cell? ⟨w.heap.size, 3, none⟩ = some (.int .i64 0) := Bc b2 hl1 y3
      have f20 : w2.frozen? ⟨w.heap.size, 0, none⟩ = false := Bf b2 hl1 f0
      have f21 : w2.frozen? ⟨w.heap.size, 1, none⟩ = false := Bf b2 hl1 f1
      have f22 : w2.frozen? ⟨w.heap.size, 2, none⟩ = false := Bf b2 hl1 f2
      have f23 : w2.frozen? ⟨w.heap.size, 3, none⟩ = false := Bf b2 hl1 f3
      have hl2 : w.heap.size < w2.heap.size := Bl b2 hl1
      have hm2 : w1.heap.size < w2.heap.size := Bl hg2.below (by simp)
      have v20 : w2.cell? ⟨w1.heap.size, 0, none⟩ = some (.int .i64 0) := Bc hg2.below (by simp) (by simp)
      have v21 : w2.cell? ⟨w1.heap.size, 1, none⟩ = some (.int .i64 0) := Bc hg2.below (by simp) (by simp)
      have v22 : w2.cell? ⟨w1.heap.size, 2, none⟩ = some (.int .i64 0) := Bc hg2.below (by simp) (by simp)
      clear b2
      go_wp2
      exact bodyPost_ret (v := .tuple #[.agg #[.int .i64 0, .int .i64 0, .int .i64 0, .int .i64 0], .bool false]) (by simp [results, Tryd.results21, go_sem, *]) rfl ⟨rfl, (by repeat (first | with_reducible exact Below.refl _ _ | with_reducible assumption | with_reducible apply Ba | with_reducible apply Bd | with_reducible apply Bn | with_reducible apply Bg | (with_reducible refine Bs ?_ (by first | (simp; done) | (simp; omega)) _) | (with_reducible refine Bt ?_ (by assumption)) | (with_reducible refine Bt ?_ (Gr.below (by assumption)))))⟩
  · rw [e1, e2] at F0
    rcases fnd_cases l 1 with ⟨d0, d1, d2⟩ | ⟨c, d, d0, d1, d2, d3⟩
    · have hno : boxV l = none := by rw [hbx, e0, d0]
      rw [boxA_no hno, hno]
      rw [d1, d2] at F1
      clear hno hbx hbb hr hl e0 e1 e2 e3 d0 d1 d2
      simp only [aggV] at F0 F1
      go_enter Tryd.func21, Tryd.ntmps21
      go_wp2_with fail
      refine Calls.mono (F0.out _ (HL.out.below ?bb)) ?_
      (case bb => exact (by repeat (first | with_reducible exact Below.refl _ _ | with_reducible assumption | with_reducible apply Ba | with_reducible apply Bd | with_reducible apply Bn | with_reducible apply Bg | (with_reducible refine Bs ?_ (by first | (simp; done) | (simp; omega)) _) | (with_reducible refine Bt ?_ (by assumption)) | (with_reducible refine Bt ?_ (Gr.below (by assumption))))))
      rintro e w1 ⟨rfl, hg1⟩
      have y0 : w1.cell? ⟨w.heap.size, 0, none⟩ = some (.int .i64 0) := Bc hg1.below (by simp) (by simp)
      have y1 : w1.cell? ⟨w.heap.size, 1, none⟩ = some (.int .i64 0) := Bc hg1.below (by simp) (by simp)
      have y2 : w1.cell? ⟨w.heap.size, 2, none⟩ = some (.int .i64 0) := Bc hg1.below (by simp) (by simp)
      have y3 : w1.cell? ⟨w.heap.size, 3, none⟩ = some (.int .i64 0) := Bc hg1.below (by simp) (by simp)
      have f0 : w1.frozen? ⟨w.heap.size, 0, none⟩ = false := Bf hg1.below (by simp) (by simp)
      have f1 : w1.frozen? ⟨w.heap.size, 1, none⟩ = false := Bf hg1.below (by simp) (by simp)
      have f2 : w1.frozen? ⟨w.heap.size, 2, none⟩ = false := Bf hg1.below (by simp) (by simp)
      have f3 : w1.frozen? ⟨w.heap.size, 3, none⟩ = false := Bf hg1.below (by simp) (by simp)
      have hl1 : w.heap.size < w1.heap.size := Bl hg1.below (by simp)
      go_wp2_with fail
      refine Calls.mono (F1.out _ (HL.out.below ?bb)) ?_
      (case bb => exact (by repeat (first | with_reducible exact Below.refl _ _ | with_reducible assumption | with_reducible apply Ba | with_reducible apply Bd | with_reducible apply Bn | with_reducible apply Bg | (with_reducible refine Bs ?_ (by first | (simp; done) | (simp; omega)) _) | (with_reducible refine Bt ?_ (by assumption)) | (with_reducible refine Bt ?_ (Gr.below (by assumption))))))
      rintro e w2 ⟨rfl, hg2⟩
      have b2 := (show RowKit.Below w1.heap.size w1 w2 from (by repeat (first | with_reducible exact Below.refl _ _ | with_reducible assumption | with_reducible apply Ba | with_reducible apply Bd | with_reducible apply Bn | with_reducible apply Bg | (with_reducible refine Bs ?_ (by first | (simp; done) | (simp; omega)) _) | (with_reducible refine Bt ?_ (by assumption)) | (with_reducible refine Bt ?_ (Gr.below (by assumption))))))
      have y20 : w2.cell? ⟨w.heap.size, 0, none⟩ = some (.int .i64 0) := Bc b2 hl1 y0
      have y21 : w2.cell? ⟨w.heap.size, 1, none⟩ = some (.int .i64 0) := Bc b2 hl1 y1
      have y22 : w2.cell? ⟨w.heap.size, 2, none⟩ = some (.int .i64 0) := Bc b2 hl1 y2
      have y23 : w2.cell? ⟨w.heap.size, 3, none⟩ = some (.int .i64 0) := Bc b2 hl1 y3
      have f20 : w2.frozen? ⟨w.heap.size, 0, none⟩ = false := Bf b2 hl1 f0
      have f21 : w2.frozen? ⟨w.heap.size, 1, none⟩ = false := Bf b2 hl1 f1
      have f22 : w2.frozen? ⟨w.heap.size, 2, none⟩ = false := Bf b2 hl1 f2
      have f23 : w2.frozen? ⟨w.heap.size, 3, none⟩ = false := Bf b2 hl1 f3
      have hl2 : w.heap.size < w2.heap.size := Bl b2 hl1
      have hm2 : w1.heap.size < w2.heap.size := Bl hg2.below (by simp)
      have v20 : w2.cell? ⟨w1.heap.size, 0, none⟩ = some (.int .i64 0) := Bc hg2.below (by simp) (by simp)
      have v21 : w2.cell? ⟨w1.heap.size, 1, none⟩ = some (.int .i64 a) := Bc hg2.below (by simp) (by simp)
      have v22 : w2.cell? ⟨w1.heap.size, 2, none⟩ = some (.int .i64 b) := Bc hg2.below (by simp) (by simp)
      clear b2
      go_wp2
      exact bodyPost_ret (v := .tuple #[.agg #[.int .i64 0, .int .i64 0, .int .i64 0, .int .i64 0], .bool false]) (by simp [results, Tryd.results21, go_sem, *]) rfl ⟨rfl, (by repeat (first | with_reducible exact Below.refl _ _ | with_reducible assumption | with_reducible apply Ba | with_reducible apply Bd | with_reducible apply Bn | with_reducible apply Bg | (with_reducible refine Bs ?_ (by first | (simp; done) | (simp; omega)) _) | (with_reducible refine Bt ?_ (by assumption)) | (with_reducible refine Bt ?_ (Gr.below (by assumption)))))⟩
    · have hyes : boxV l = some (a - c, b - d, a + c, b + d) := by rw [hbx, e0, d0]
      rw [boxA_yes hyes, hyes]
      rw [d1, d2] at F1
      have p1 := chk_pos.1 (hr _ e3)
      have p2 := chk_ext.1 (hr _ d3)
      have FO : Hid (∀ W, Calls Tryd.prog 47 #[.agg #[.int .i64 a, .int .i64 b], .agg #[.int .i64 c, .int .i64 d]] W fun e w' => e = .returned (.tuple #[.agg #[.int .i64 (a - c), .int .i64 (b - d), .int .i64 (a + c), .int .i64 (b + d)], .nilIface]) ∧ RowKit.Below W.heap.size W w') := fun W => of_yes a b c d W ⟨p1.1, p1.2, p2.1, p2.2⟩
      clear hyes hbx hbb hr hl e0 e1 e2 e3 d0 d1 d2 d3 p1 p2
      generalize a - c = q1 at *
      generalize b - d = q2 at *
      generalize a + c = q3 at *
      generalize b + d = q4 at *
      simp only [aggV] at F0 F1
      go_enter Tryd.func21, Tryd.ntmps21
      go_wp2_with fail
      refine Calls.mono (F0.out _ (HL.out.below ?bb)) ?_
      (case bb => exact (by repeat (first | with_reducible exact Below.refl _ _ | with_reducible assumption | with_reducible apply Ba | with_reducible apply Bd | with_reducible apply Bn | with_reducible apply Bg | (with_reducible refine Bs ?_ (by first | (simp; done) | (simp; omega)) _) | (with_reducible refine Bt ?_ (by assumption)) | (with_reducible refine Bt ?_ (Gr.below (by assumption))))))
      rintro e w1 ⟨rfl, hg1⟩
      have y0 : w1.cell? ⟨w.heap.size, 0, none⟩ = some (.int .i64 0) := Bc hg1.below (by simp) (by simp)
      have y1 : w1.cell? ⟨w.heap.size, 1, none⟩ = some (.int .i64 0) := Bc hg1.below (by simp) (by simp)
      have y2 : w1.cell? ⟨w.heap.size, 2, none⟩ = some (.int .i64 0) := Bc hg1.below (by simp) (by simp)
      have y3 : w1.cell? ⟨w.heap.size, 3, none⟩ = some (.int .i64 0) := Bc hg1.below (by simp) (by simp)
      have f0 : w1.frozen? ⟨w.heap.size, 0, none⟩ = false := Bf hg1.below (by simp) (by simp)
      have f1 : w1.frozen? ⟨w.heap.size, 1, none⟩ = false := Bf hg1.below (by simp) (by simp)
      have f2 : w1.frozen? ⟨w.heap.size, 2, none⟩ = false := Bf hg1.below (by simp) (by simp)
      have f3 : w1.frozen? ⟨w.heap.size, 3, none⟩ = false := Bf hg1.below (by simp) (by simp)
      have hl1 : w.heap.size < w1.heap.size := Bl hg1.below (by simp)
      go_wp2_with fail
      refine Calls.mono (F1.out _ (HL.out.below ?bb)) ?_
      (case bb => exact (by repeat (first | with_reducible exact Below.refl _ _ | with_reducible assumption | with_reducible apply Ba | with_reducible apply Bd | with_reducible apply Bn | with_reducible apply Bg | (with_reducible refine Bs ?_ (by first | (simp; done) | (simp; omega)) _) | (with_reducible refine Bt ?_ (by assumption)) | (with_reducible refine Bt ?_ (Gr.below (by assumption))))))
      rintro e w2 ⟨rfl, hg2⟩
      have b2 := (show RowKit.Below w1.heap.size w1 w2 from (by repeat (first | with_reducible exact Below.refl _ _ | with_reducible assumption | with_reducible apply Ba | with_reducible apply Bd | with_reducible apply Bn | with_reducible apply Bg | (with_reducible refine Bs ?_ (by first | (simp; done) | (simp; omega)) _) | (with_reducible refine Bt ?_ (by assumption)) | (with_reducible refine Bt ?_ (Gr.below (by assumption))))))
      have y20 : w2.cell? ⟨w.heap.size, 0, none⟩ = some (.int .i64 0) := Bc b2 hl1 y0
      have y21 : w2.cell? ⟨w.heap.size, 1, none⟩ = some (.int .i64 0) := Bc b2 hl1 y1
      have y22 : w2.cell? ⟨w.heap.size, 2, none⟩ = some (.int .i64 0) := Bc b2 hl1 y2
      have y23 : w2.cell? ⟨w.heap.size, 3, none⟩ = some (.int .i64 0) := Bc b2 hl1 y3
      have f20 : w2.frozen? ⟨w.heap.size, 0, none⟩ = false := Bf b2 hl1 f0
      have f21 : w2.frozen? ⟨w.heap.size, 1, none⟩ = false := Bf b2 hl1 f1
      have f22 : w2.frozen? ⟨w.heap.size, 2, none⟩ = false := Bf b2 hl1 f2
      have f23 : w2.frozen? ⟨w.heap.size, 3, none⟩ = false := Bf b2 hl1 f3
      have hl2 : w.heap.size < w2.heap.size := Bl b2 hl1
      have hm2 : w1.heap.size < w2.heap.size := Bl hg2.below (by simp)
      have v20 : w2.cell? ⟨w1.heap.size, 0, none⟩ = some (.int .i64 0) := Bc hg2.below (by simp) (by simp)
      have v21 : w2.cell? ⟨w1.heap.size, 1, none⟩ = some (.int .i64 a) := Bc hg2.below (by simp) (by simp)
      have v22 : w2.cell? ⟨w1.heap.size, 2, none⟩ = some (.int .i64 b) := Bc hg2.below (by simp) (by simp)
      clear b2
      go_wp2_with fail
      refine (FO.out _).mono ?_
      rintro e w3 ⟨rfl, hb3⟩
      have b3 := (show RowKit.Below w2.heap.size w2 w3 from (by repeat (first | with_reducible exact Below.refl _ _ | with_reducible assumption | with_reducible apply Ba | with_reducible apply Bd | with_reducible apply Bn | with_reducible apply Bg | (with_reducible refine Bs ?_ (by first | (simp; done) | (simp; omega)) _) | (with_reducible refine Bt ?_ (by assumption)) | (with_reducible refine Bt ?_ (Gr.below (by assumption))))))
      have y30 : w3.cell? ⟨w.heap.size, 0, none⟩ = some (.int .i64 0) := Bc b3 hl2 y20
      have y31 : w3.cell? ⟨w.heap.size, 1, none⟩ = some (.int .i64 0) := Bc b3 hl2 y21
      have y32 : w3.cell? ⟨w.heap.size, 2, none⟩ = some (.int .i64 0) := Bc b3 hl2 y22
      have y33 : w3.cell? ⟨w.heap.size, 3, none⟩ = some (.int .i64 0) := Bc b3 hl2 y23
      have f30 : w3.frozen? ⟨w.heap.size, 0, none⟩ = false := Bf b3 hl2 f20
      have f31 : w3.frozen? ⟨w.heap.size, 1, none⟩ = false := Bf b3 hl2 f21
      have f32 : w3.frozen? ⟨w.heap.size, 2, none⟩ = false := Bf b3 hl2 f22
      have f33 : w3.frozen? ⟨w.heap.size, 3, none⟩ = false := Bf b3 hl2 f23
      have hl3 : w.heap.size < w3.heap.size := Bl b3 hl2
      clear b3
      go_wp2
      go_region
      go_wp2
      exact bodyPost_ret (v := .tuple #[.agg #[.int .i64 q1, .int .i64 q2, .int .i64 q3, .int .i64 q4], .bool true]) (by simp [results, Tryd.results21, go_sem, *]) rfl ⟨rfl, (by repeat (first | with_reducible exact Below.refl _ _ | with_reducible assumption | with_reducible apply Ba | with_reducible apply Bd | with_reducible apply Bn | with_reducible apply Bg | (with_reducible refine Bs ?_ (by first | (simp; done) | (simp; omega)) _) | (with_reducible refine Bt ?_ (by assumption)) | (with_reducible refine Bt ?_ (Gr.below (by assumption)))))⟩

set_option maxHeartbeats 1000000 in
set_option maxRecDepth 100000 in
theorem rbox_call (l : List Vl) (v : Value) (w : World) (hl : Sl encV w v l) (hr : ∀ x ∈ l, chk x = 0) : Calls Tryd.prog 22 #[v] w fun e w' => e = .returned (.tuple #[boxA l, .bool (boxB l)]) ∧ RowKit.Below w.heap.size w w' := by
  have HL := Lib.hid hl
  have F0 : Hid (∀ W, Sl encV W v l → Calls Tryd.prog 20 #[v, .int .i64 0] W fun e w' => e = .returned (.tuple #[aggV (fndV l 0), .bool (hasK l 0)]) ∧ Gr W w') := fun W h => rfind_call l v 0 W h
  have F1 : Hid (∀ W, Sl encV W v l → Calls Tryd.prog 20 #[v, .int .i64 1] W fun e w' => e = .returned (.tuple #[aggV (fndV l 1), .bool (hasK l 1)]) ∧ Gr W w') := fun W h => rfind_call l v 1 W h
  have hbx : boxV l = match findV l 0, findV l 1 with | some p, some e => some (p.2.1 - e.2.1, p.2.2 - e.2.2, p.2.1 + e.2.1, p.2.2 + e.2.2) | _, _ => none := rfl
  have hbb : boxB l = (boxV l).isSome := rfl
  rw [hbb]
  rcases fnd_cases l 0 with ⟨e0, e1, e2⟩ | ⟨a, b, e0, e1, e2, e3⟩
  · have hno : boxV l = none := by rw [hbx, e0]
    rw [boxA_no hno, hno]
    rw [e1, e2] at F0
    rcases fnd_cases l 1 with ⟨d0, d1, d2⟩ | ⟨c, d, d0, d1, d2, d3⟩
    · rw [d1, d2] at F1
      clear hno hbx hbb hr hl e0 e1 e2 d0 d1 d2
      simp only [aggV] at F0 F1
      go_enter Tryd.func22, Tryd.ntmps22
      go_wp2_with fail
      refine Calls.mono (F0.out _ (HL.out.below ?bb)) ?_
      (case bb => exact (by repeat (first | with_reducible exact Below.refl _ _ | with_reducible assumption | with_reducible apply Ba | with_reducible apply Bd | with_reducible apply Bn | with_reducible apply Bg | (with_reducible refine Bs ?_ (by first | (simp; done) | (simp; omega)) _) | (with_reducible refine Bt ?_ (by assumption)) | (with_reducible refine Bt ?_ (Gr.below (by assumption))))))
      rintro e w1 ⟨rfl, hg1⟩
      have y0 : w1.cell? ⟨w.heap.size, 0, none⟩ = some (.int .i64 0) := Bc hg1.below (by simp) (by simp)
      have y1 : w1.cell? ⟨w.heap.size, 1, none⟩ = some (.int .i64 0) := Bc hg1.below (by simp) (by simp)
      have y2 : w1.cell? ⟨w.heap.size, 2, none⟩ = some (.int .i64 0) := Bc hg1.below (by simp) (by simp)
      have y3 : w1.cell? ⟨w.heap.size, 3, none⟩ = some (.int .i64 0) := Bc hg1.below (by simp) (by simp)
      have f0 : w1.frozen? ⟨w.heap.size, 0, none⟩ = false := Bf hg1.below (by simp) (by simp)
      have f1 : w1.frozen? ⟨w.heap.size, 1, none⟩ = false := Bf hg1.below (by simp) (by simp)
      have f2 : w1.frozen? ⟨w.heap.size, 2, none⟩ = false := Bf hg1.below (by simp) (by simp)
      have f3 : w1.frozen? ⟨w.heap.size, 3, none⟩ = false := Bf hg1.below (by simp) (by simp)
      have hl1 : w.heap.size < w1.heap.size := Bl hg1.below (by simp)
      go_wp2_with fail
      refine Calls.mono (F1.out _ (HL.out.below ?bb)) ?_
      (case bb => exact (by repeat (first | with_reducible exact Below.refl _ _ | with_reducible assumption | with_reducible apply Ba | with_reducible apply Bd | with_reducible apply Bn | with_reducible apply Bg | (with_reducible refine Bs ?_ (by first | (simp; done) | (simp; omega)) _) | (with_reducible refine Bt ?_ (by assumption)) | (with_reducible refine Bt ?_ (Gr.below (by assumption))))))
      rintro e w2 ⟨rfl, hg2⟩
      have b2 := (show RowKit.Below w1.heap.size w1 w2 from (by repeat (first | with_reducible exact Below.refl _ _ | with_reducible assumption | with_reducible apply Ba | with_reducible apply Bd | with_reducible apply Bn | with_reducible apply Bg | (with_reducible refine Bs ?_ (by first | (simp; done) | (simp; omega)) _) | (with_reducible refine Bt ?_ (by assumption)) | (with_reducible refine Bt ?_ (Gr.below (by assumption))))))
      have y20 : w2.cell? ⟨w.heap.size, 0, none⟩ = some (.int .i64 0) := Bc b2 hl1 y0
      have y21 : w2.cell? ⟨w.heap.size, 1, none⟩ = some (.int .i64 0) := Bc b2 hl1 y1
      have y22 : w2.cell? ⟨w.heap.size, 2, none⟩ = some (.int .i64 0) := Bc b2 hl1 y2
      have y23 : w2.cell? ⟨w.heap.size, 3, none⟩ = some (.int .i64 0) := Bc b2 hl1 y3
      have f20 : w2.frozen? ⟨w.heap.size, 0, none⟩ = false := Bf b2 hl1 f0
      have f21 : w2.frozen? ⟨w.heap.size, 1, none⟩ = false := Bf b2 hl1 f1
      have f22 : w2.frozen? ⟨w.heap.size, 2, none⟩ = false := Bf b2 hl1 f2
      have f23 : w2.frozen? ⟨w.heap.size, 3, none⟩ = false := Bf b2 hl1 f3
      have hl2 : w.heap.size < w2.heap.size := Bl b2 hl1
      have hm2 : w1.heap.size < w2.heap.size := Bl hg2.below (by simp)
      have v20 : w2.cell? ⟨w1.heap.size, 0, none⟩ = some (.int .i64 0) := Bc hg2.below (by simp) (by simp)
      have v21 : w2.cell? ⟨w1.heap.size, 1, none⟩ = some (.int .i64 0) := Bc hg2.below (by simp) (by simp)
      have v22 : w2.cell? ⟨w1.heap.size, 2, none⟩ = some (.int .i64 0) := Bc hg2.below (by simp) (by simp)
      clear b2
      go_wp2
      exact bodyPost_ret (v := .tuple #[.agg #[.int .i64 0, .int .i64 0, .int .i64 0, .int .i64 0], .bool false]) (by simp [results, Tryd.results22, go_sem, *]) rfl ⟨rfl, (by repeat (first | with_reducible exact Below.refl _ _ | with_reducible assumption | with_reducible apply Ba | with_reducible apply Bd | with_reducible apply Bn | with_reducible apply Bg | (with_reducible refine Bs ?_ (by first | (simp; done) | (simp; omega)) _) | (with_reducible refine Bt ?_ (by assumption)) | (with_reducible refine Bt ?_ (Gr.below (by assumption)))))⟩
    · rw [d1, d2] at F1
      clear hno hbx hbb hr hl e0 e1 e2 d0 d1 d2 d3
      simp only [aggV] at F0 F1
      go_enter Tryd.func22, Tryd.ntmps22
      go_wp2_with fail
      refine Calls.mono (F0.out _ (HL.out.below ?bb)) ?_
      (case bb => exact (by repeat (first | with_reducible exact Below.refl _ _ | with_reducible assumption | with_reducible apply Ba | with_reducible apply Bd | with_reducible apply Bn | with_reducible apply Bg | (with_reducible refine Bs ?_ (by first | (simp; done) | (simp; omega)) _) | (with_reducible refine Bt ?_ (by assumption)) | (with_reducible refine Bt ?_ (Gr.below (by assumption))))))
      rintro e w1 ⟨rfl, hg1⟩
      have y0 : w1.cell? ⟨w.heap.size, 0, none⟩ = some (.int .i64 0) := Bc hg1.below (by simp) (by simp)
      have y1 : w1.cell? ⟨w.heap.size, 1, none⟩ = some (.int .i64 0) := Bc hg1.below (by simp) (by simp)
      have y2 : w1.cell? ⟨w.heap.size, 2, none⟩ = some (.int .i64 0) := Bc hg1.below (by simp) (by simp)
      have y3 : w1.cell? ⟨w.heap.size, 3, none⟩ = some (.int .i64 0) := Bc hg1.below (by simp) (by simp)
      have f0 : w1.frozen? ⟨w.heap.size, 0, none⟩ = false := Bf hg1.below (by simp) (by simp)
      have f1 : w1.frozen? ⟨w.heap.size, 1, none⟩ = false := Bf hg1.below (by simp) (by simp)
      have f2 : w1.frozen? ⟨w.heap.size, 2, none⟩ = false := Bf hg1.below (by simp) (by simp)
      have f3 : w1.frozen? ⟨w.heap.size, 3, none⟩ = false := Bf hg1.below (by simp) (by simp)
      have hl1 : w.heap.size < w1.heap.size := Bl hg1.below (by simp)
      go_wp2_with fail
      refine Calls.mono (F1.out _ (HL.out.below ?bb)) ?_
      (case bb => exact (by repeat (first | with_reducible exact Below.refl _ _ | with_reducible assumption | with_reducible apply Ba | with_reducible apply Bd | with_reducible apply Bn | with_reducible apply Bg | (with_reducible refine Bs ?_ (by first | (simp; done) | (simp; omega)) _) | (with_reducible refine Bt ?_ (by assumption)) | (with_reducible refine Bt ?_ (Gr.below (by assumption))))))
      rintro e w2 ⟨rfl, hg2⟩
      have b2 := (show RowKit.Below w1.heap.size w1 w2 from (by repeat (first | with_reducible exact Below.refl _ _ | with_reducible assumption | with_reducible apply Ba | with_reducible apply Bd | with_reducible apply Bn | with_reducible apply Bg | (with_reducible refine Bs ?_ (by first | (simp; done) | (simp; omega)) _) | (with_reducible refine Bt ?_ (by assumption)) | (with_reducible refine Bt ?_ (Gr.below (by assumption))))))
      have y20 : w2.cell? ⟨w.heap.size, 0, none⟩ = some (.int .i64 0) := Bc b2 hl1 y0
      have y21 : w2.cell? ⟨w.heap.size, 1, none⟩ = some (.int .i64 0) := Bc b2 hl1 y1
      have y22 : w2.cell? ⟨w.heap.size, 2, none⟩ = some (.int .i64 0) := Bc b2 hl1 y2
      have y23 : w2.cell? ⟨w.heap.size, 3, none⟩ = some (.int .i64 0) := Bc b2 hl1 y3
      have f20 : w2.frozen? ⟨w.heap.size, 0, none⟩ = false := Bf b2 hl1 f0
      have f21 : w2.frozen? ⟨w.heap.size, 1, none⟩ = false := Bf b2 hl1 f1
      have f22 : w2.frozen? ⟨w.heap.size, 2, none⟩ = false := Bf b2 hl1 f2
      have f23 : w2.frozen? ⟨w.heap.size, 3, none⟩ = false := Bf b2 hl1 f3
      have hl2 : w.heap.size < w2.heap.size := Bl b2 hl1
      have hm2 : w1.heap.size < w2.heap.size := Bl hg2.below (by simp)
      have v20 : w2.cell? ⟨w1.heap.size, 0, none⟩ = some (.int .i64 0) := Bc hg2.below (by simp) (by simp)
      have v21 : w2.cell? ⟨w1.heap.size, 1, none⟩ = some (.int .i64 0) := Bc hg2.below (by simp) (by simp)
      have v22 : w2.cell? ⟨w1.heap.size, 2, none⟩ = some (.int .i64 0) := Bc hg2.below (by simp) (by simp)
      clear b2
      go_wp2
      exact bodyPost_ret (v := .tuple #[.agg #[.int .i64 0, .int .i64 0, .int .i64 0, .int .i64 0], .bool false]) (by simp [results, Tryd.results22, go_sem, *]) rfl ⟨rfl, (by repeat (first | with_reducible exact Below.refl _ _ | with_reducible assumption | with_reducible apply Ba | with_reducible apply Bd | with_reducible apply Bn | with_reducible apply Bg | (with_reducible refine Bs ?_ (by first | (simp; done) | (simp; omega)) _) | (with_reducible refine Bt ?_ (by assumption)) | (with_reducible refine Bt ?_ (Gr.below (by assumption)))))⟩
  · rw [e1, e2] at F0
    rcases fnd_cases l 1 with ⟨d0, d1, d2⟩ | ⟨c, d, d0, d1, d2, d3⟩
    · have hno : boxV l = none := by rw [hbx, e0, d0]
      rw [boxA_no hno, hno]
      rw [d1, d2] at F1
      clear hno hbx hbb hr hl e0 e1 e2 e3 d0 d1 d2
      simp only [aggV] at F0 F1
      go_enter Tryd.func22, Tryd.ntmps22
      go_wp2_with fail
      refine Calls.mono (F0.out _ (HL.out.below ?bb)) ?_
      (case bb => exact (by repeat (first | with_reducible exact Below.refl _ _ | with_reducible assumption | with_reducible apply Ba | with_reducible apply Bd | with_reducible apply Bn | with_reducible apply Bg | (with_reducible refine Bs ?_ (by first | (simp; done) | (simp; omega)) _) | (with_reducible refine Bt ?_ (by assumption)) | (with_reducible refine Bt ?_ (Gr.below (by assumption))))))
      rintro e w1 ⟨rfl, hg1⟩
      have y0 : w1.cell? ⟨w.heap.size, 0, none⟩ = some (.int .i64 0) := Bc hg1.below (by simp) (by simp)
      have y1 : w1.cell? ⟨w.heap.size, 1, none⟩ = some (.int .i64 0) := Bc hg1.below (by simp) (by simp)
      have y2 : w1.cell? ⟨w.heap.size, 2, none⟩ = some (.int .i64 0) := Bc hg1.below (by simp) (by simp)
      have y3 : w1.cell? ⟨w.heap.size, 3, none⟩ = some (.int .i64 0) := Bc hg1.below (by simp) (by simp)
      have f0 : w1.frozen? ⟨w.heap.size, 0, none⟩ = false := Bf hg1.below (by simp) (by simp)
      have f1 : w1.frozen? ⟨w.heap.size, 1, none⟩ = false := Bf hg1.below (by simp) (by simp)
      have f2 : w1.frozen? ⟨w.heap.size, 2, none⟩ = false := Bf hg1.below (by simp) (by simp)
      have f3 : w1.frozen? ⟨w.heap.size, 3, none⟩ = false := Bf hg1.below (by simp) (by simp)
      have hl1 : w.heap.size < w1.heap.size := Bl hg1.below (by simp)
      go_wp2_with fail
      refine Calls.mono (F1.out _ (HL.out.below ?bb)) ?_
      (case bb => exact (by repeat (first | with_reducible exact Below.refl _ _ | with_reducible assumption | with_reducible apply Ba | with_reducible apply Bd | with_reducible apply Bn | with_reducible apply Bg | (with_reducible refine Bs ?_ (by first | (simp; done) | (simp; omega)) _) | (with_reducible refine Bt ?_ (by assumption)) | (with_reducible refine Bt ?_ (Gr.below (by assumption))))))
      rintro e w2 ⟨rfl, hg2⟩
      have b2 := (show RowKit.Below w1.heap.size w1 w2 from (by repeat (first | with_reducible exact Below.refl _ _ | with_reducible assumption | with_reducible apply Ba | with_reducible apply Bd | with_reducible apply Bn | with_reducible apply Bg | (with_reducible refine Bs ?_ (by first | (simp; done) | (simp; omega)) _) | (with_reducible refine Bt ?_ (by assumption)) | (with_reducible refine Bt ?_ (Gr.below (by assumption))))))
      have y20 : w2.cell? ⟨w.heap.size, 0, none⟩ = some (.int .i64 0) := Bc b2 hl1 y0
      have y21 : w2.cell? ⟨w.heap.size, 1, none⟩ = some (.int .i64 0) := Bc b2 hl1 y1
      have y22 : w2.cell? ⟨w.heap.size, 2, none⟩ = some (.int .i64 0) := Bc b2 hl1 y2
      have y23 : w2.cell? ⟨w.heap.size, 3, none⟩ = some (.int .i64 0) := Bc b2 hl1 y3
      have f20 : w2.frozen? ⟨w.heap.size, 0, none⟩ = false := Bf b2 hl1 f0
      have f21 : w2.frozen? ⟨w.heap.size, 1, none⟩ = false := Bf b2 hl1 f1
      have f22 : w2.frozen? ⟨w.heap.size, 2, none⟩ = false := Bf b2 hl1 f2
      have f23 : w2.frozen? ⟨w.heap.size, 3, none⟩ = false := Bf b2 hl1 f3
      have hl2 : w.heap.size < w2.heap.size := Bl b2 hl1
      have hm2 : w1.heap.size < w2.heap.size := Bl hg2.below (by simp)
      have v20 : w2.cell? ⟨w1.heap.size, 0, none⟩ = some (.int .i64 0) := Bc hg2.below (by simp) (by simp)
      have v21 : w2.cell? ⟨w1.heap.size, 1, none⟩ = some (.int .i64 a) := Bc hg2.below (by simp) (by simp)
      have v22 : w2.cell? ⟨w1.heap.size, 2, none⟩ = some (.int .i64 b) := Bc hg2.below (by simp) (by simp)
      clear b2
      go_wp2
      exact bodyPost_ret (v := .tuple #[.agg #[.int .i64 0, .int .i64 0, .int .i64 0, .int .i64 0], .bool false]) (by simp [results, Tryd.results22, go_sem, *]) rfl ⟨rfl, (by repeat (first | with_reducible exact Below.refl _ _ | with_reducible assumption | with_reducible apply Ba | with_reducible apply Bd | with_reducible apply Bn | with_reducible apply Bg | (with_reducible refine Bs ?_ (by first | (simp; done) | (simp; omega)) _) | (with_reducible refine Bt ?_ (by assumption)) | (with_reducible refine Bt ?_ (Gr.below (by assumption)))))⟩
    · have hyes : boxV l = some (a - c, b - d, a + c, b + d) := by rw [hbx, e0, d0]
      rw [boxA_yes hyes, hyes]
      rw [d1, d2] at F1
      have p1 := chk_pos.1 (hr _ e3)
      have p2 := chk_ext.1 (hr _ d3)
      have FO : Hid (∀ W, Calls Tryd.prog 48 #[.agg #[.int .i64 a, .int .i64 b], .agg #[.int .i64 c, .int .i64 d]] W fun e w' => e = .returned (.tuple #[.agg #[.int .i64 (a - c), .int .i64 (b - d), .int .i64 (a + c), .int .i64 (b + d)], .bool true]) ∧ RowKit.Below W.heap.size W w') := fun W => rof_yes a b c d W ⟨p1.1, p1.2, p2.1, p2.2⟩
      clear hyes hbx hbb hr hl e0 e1 e2 e3 d0 d1 d2 d3 p1 p2
      generalize a - c = q1 at *
      generalize b - d = q2 at *
      generalize a + c = q3 at *
      generalize b + d = q4 at *
      simp only [aggV] at F0 F1
      go_enter Tryd.func22, Tryd.ntmps22
      go_wp2_with fail
      refine Calls.mono (F0.out _ (HL.out.below ?bb)) ?_
      (case bb => exact (by repeat (first | with_reducible exact Below.refl _ _ | with_reducible assumption | with_reducible apply Ba | with_reducible apply Bd | with_reducible apply Bn | with_reducible apply Bg | (with_reducible refine Bs ?_ (by first | (simp; done) | (simp; omega)) _) | (with_reducible refine Bt ?_ (by assumption)) | (with_reducible refine Bt ?_ (Gr.below (by assumption))))))
      rintro e w1 ⟨rfl, hg1⟩
      have y0 : w1.cell? ⟨w.heap.size, 0, none⟩ = some (.int .i64 0) := Bc hg1.below (by simp) (by simp)
      have y1 : w1.cell? ⟨w.heap.size, 1, none⟩ = some (.int .i64 0) := Bc hg1.below (by simp) (by simp)
      have y2 : w1.cell? ⟨w.heap.size, 2, none⟩ = some (.int .i64 0) := Bc hg1.below (by simp) (by simp)
      have y3 : w1.cell? ⟨w.heap.size, 3, none⟩ = some (.int .i64 0) := Bc hg1.below (by simp) (by simp)
      have f0 : w1.frozen? ⟨w.heap.size, 0, none⟩ = false := Bf hg1.below (by simp) (by simp)
      have f1 : w1.frozen? ⟨w.heap.size, 1, none⟩ = false := Bf hg1.below (by simp) (by simp)
      have f2 : w1.frozen? ⟨w.heap.size, 2, none⟩ = false := Bf hg1.below (by simp) (by simp)
      have f3 : w1.frozen? ⟨w.heap.size, 3, none⟩ = false := Bf hg1.below (by simp) (by simp)
      have hl1 : w.heap.size < w1.heap.size := Bl hg1.below (by simp)
      go_wp2_with fail
      refine Calls.mono (F1.out _ (HL.out.below ?bb)) ?_
      (case bb => exact (by repeat (first | with_reducible exact Below.refl _ _ | with_reducible assumption | with_reducible apply Ba | with_reducible apply Bd | with_reducible apply Bn | with_reducible apply Bg | (with_reducible refine Bs ?_ (by first | (simp; done) | (simp; omega)) _) | (with_reducible refine Bt ?_ (by assumption)) | (with_reducible refine Bt ?_ (Gr.below (by assumption))))))
      rintro e w2 ⟨rfl, hg2⟩
      have b2 := (show RowKit.Below w1.heap.size w1 w2 from (by repeat (first | with_reducible exact Below.refl _ _ | with_reducible assumption | with_reducible apply Ba | with_reducible apply Bd | with_reducible apply Bn | with_reducible apply Bg | (with_reducible refine Bs ?_ (by first | (simp; done) | (simp; omega)) _) | (with_reducible refine Bt ?_ (by assumption)) | (with_reducible refine Bt ?_ (Gr.below (by assumption))))))
      have y20 : w2.cell? ⟨w.heap.size, 0, none⟩ = some (.int .i64 0) := Bc b2 hl1 y0
      have y21 : w2.cell? ⟨w.heap.size, 1, none⟩ = some (.int .i64 0) := Bc b2 hl1 y1
      have y22 : w2.cell? ⟨w.heap.size, 2, none⟩ = some (.int .i64 0) := Bc b2 hl1 y2
      have y23 : w2.cell? ⟨w.heap.size, 3, none⟩ = some (.int .i64 0) := Bc b2 hl1 y3
      have f20 : w2.frozen? ⟨w.heap.size, 0, none⟩ = false := Bf b2 hl1 f0
      have f21 : w2.frozen? ⟨w.heap.size, 1, none⟩ = false := Bf b2 hl1 f1
      have f22 : w2.frozen? ⟨w.heap.size, 2, none⟩ = false := Bf b2 hl1 f2
      have f23 : w2.frozen? ⟨w.heap.size, 3, none⟩ = false := Bf b2 hl1 f3
      have hl2 : w.heap.size < w2.heap.size := Bl b2 hl1
      have hm2 : w1.heap.size < w2.heap.size := Bl hg2.below (by simp)
      have v20 : w2.cell? ⟨w1.heap.size, 0, none⟩ = some (.int .i64 0) := Bc hg2.below (by simp) (by simp)
      have v21 : w2.cell? ⟨w1.heap.size, 1, none⟩ = some (.int .i64 a) := Bc hg2.below (by simp) (by simp)
      have v22 : w2.cell? ⟨w1.heap.size, 2, none⟩ = some (.int .i64 b) := Bc hg2.below (by simp) (by simp)
      clear b2
      go_wp2_with fail
      refine (FO.out _).mono ?_
      rintro e w3 ⟨rfl, hb3⟩
      have b3 := (show RowKit.Below w2.heap.size w2 w3 from (by repeat (first | with_reducible exact Below.refl _ _ | with_reducible assumption | with_reducible apply Ba | with_reducible apply Bd | with_reducible apply Bn | with_reducible apply Bg | (with_reducible refine Bs ?_ (by first | (simp; done) | (simp; omega)) _) | (with_reducible refine Bt ?_ (by assumption)) | (with_reducible refine Bt ?_ (Gr.below (by assumption))))))
      have y30 : w3.cell? ⟨w.heap.size, 0, none⟩ = some (.int .i64 0) := Bc b3 hl2 y20
      have y31 : w3.cell? ⟨w.heap.size, 1, none⟩ = some (.int .i64 0) := Bc b3 hl2 y21
      have y32 : w3.cell? ⟨w.heap.size, 2, none⟩ = some (.int .i64 0) := Bc b3 hl2 y22
      have y33 : w3.cell? ⟨w.heap.size, 3, none⟩ = some (.int .i64 0) := Bc b3 hl2 y23
      have f30 : w3.frozen? ⟨w.heap.size, 0, none⟩ = false := Bf b3 hl2 f20
      have f31 : w3.frozen? ⟨w.heap.size, 1, none⟩ = false := Bf b3 hl2 f21
      have f32 : w3.frozen? ⟨w.heap.size, 2, none⟩ = false := Bf b3 hl2 f22
      have f33 : w3.frozen? ⟨w.heap.size, 3, none⟩ = false := Bf b3 hl2 f23
      have hl3 : w.heap.size < w3.heap.size := Bl b3 hl2
      clear b3
      go_wp2
      exact bodyPost_ret (v := .tuple #[.agg #[.int .i64 q1, .int .i64 q2, .int .i64 q3, .int .i64 q4], .bool true]) (by simp [results, Tryd.results22, go_sem, *]) rfl ⟨rfl, (by repeat (first | with_reducible exact Below.refl _ _ | with_reducible assumption | with_reducible apply Ba | with_reducible apply Bd | with_reducible apply Bn | with_reducible apply Bg | (with_reducible refine Bs ?_ (by first | (simp; done) | (simp; omega)) _) | (with_reducible refine Bt ?_ (by assumption)) | (with_reducible refine Bt ?_ (Gr.below (by assumption)))))⟩

def blkB (l : List Vl) : Bool := boxB l && hasK l 3
set_option maxHeartbeats 1000000 in
theorem blocks_call (l : List Vl) (v : Value) (w : World) (hl : Sl encV w v l) (hr : ∀ x ∈ l, chk x = 0) : Calls Tryd.prog 25 #[v] w fun e w' => e = .returned (.bool (blkB l)) ∧ RowKit.Below w.heap.size w w' := by
  have HL := Lib.hid hl
  have F0 : Hid (∀ W, Sl encV W v l → Calls Tryd.prog 19 #[v, .int .i64 3] W fun e w' => e = .returned (.tuple #[aggV (fndV l 3), .bool (hasK l 3)]) ∧ Gr W w') := fun W h => find_call l v 3 W h
  have FB : Hid (∀ W, Sl encV W v l → Calls Tryd.prog 21 #[v] W fun e w' => e = .returned (.tuple #[boxA l, .bool (boxB l)]) ∧ RowKit.Below W.heap.size W w') := fun W h => box_call l v W h hr
  obtain ⟨b1, b2, b3, b4, hb⟩ : ∃ a b c d, boxA l = .agg #[.int .i64 a, .int .i64 b, .int .i64 c, .int .i64 d] := by
    unfold boxA
    split
    · exact ⟨_, _, _, _, rfl⟩
    · exact ⟨_, _, _, _, rfl⟩
  obtain ⟨x1, x2, x3, hx⟩ : ∃ a b c, aggV (fndV l 3) = .agg #[.int .i64 a, .int .i64 b, .int .i64 c] := ⟨_, _, _, rfl⟩
  rw [hb] at FB
  rw [hx] at F0
  unfold blkB
  generalize boxB l = p at *
  generalize hasK l 3 = q at *
  clear hr hl hb hx
  cases p <;> cases q
  all_goals
    go_enter Tryd.func25, Tryd.ntmps25
    go_wp2_with fail
    refine Calls.mono (FB.out _ (HL.out.below ?bb)) ?_
    (case bb => exact (by repeat (first | with_reducible exact Below.refl _ _ | with_reducible assumption | with_reducible apply Ba | with_reducible apply Bd | with_reducible apply Bn | with_reducible apply Bg | (with_reducible refine Bs ?_ (by first | (simp; done) | (simp; omega)) _) | (with_reducible refine Bt ?_ (by assumption)) | (with_reducible refine Bt ?_ (Gr.below (by assumption))))))
    rintro e w1 ⟨rfl, hb1⟩
    go_wp2_with fail
    refine Calls.mono (F0.out _ (HL.out.below ?bb)) ?_
    (case bb => exact (by repeat (first | with_reducible exact Below.refl _ _ | with_reducible assumption | with_reducible apply Ba | with_reducible apply Bd | with_reducible apply Bn | with_reducible apply Bg | (with_reducible refine Bs ?_ (by first | (simp; done) | (simp; omega)) _) | (with_reducible refine Bt ?_ (by assumption)) | (with_reducible refine Bt ?_ (Gr.below (by assumption))))))
    rintro e w2 ⟨rfl, hg2⟩
    go_wp2
    go_ret
    exact ⟨rfl, (by repeat (first | with_reducible exact Below.refl _ _ | with_reducible assumption | with_reducible apply Ba | with_reducible apply Bd | with_reducible apply Bn | with_reducible apply Bg | (with_reducible refine Bs ?_ (by first | (simp; done) | (simp; omega)) _) | (with_reducible refine Bt ?_ (by assumption)) | (with_reducible refine Bt ?_ (Gr.below (by assumption)))))⟩

set_option maxHeartbeats 1000000 in
theorem rblocks_call (l : List Vl) (v : Value) (w : World) (hl : Sl encV w v l) (hr : ∀ x ∈ l, chk x = 0) : Calls Tryd.prog 26 #[v] w fun e w' => e = .returned (.bool (blkB l)) ∧ RowKit.Below w.heap.size w w' := by
  have HL := Lib.hid hl
  have F0 : Hid (∀ W, Sl encV W v l → Calls Tryd.prog 20 #[v, .int .i64 3] W fun e w' => e = .returned (.tuple #[aggV (fndV l 3), .bool (hasK l 3)]) ∧ Gr W w') := fun W h => rfind_call l v 3 W h
  have FB : Hid (∀ W, Sl encV W v l → Calls Tryd.prog 22 #[v] W fun e w' => e = .returned (.tuple #[boxA l, .bool (boxB l)]) ∧ RowKit.Below W.heap.size W w') := fun W h => rbox_call l v W h hr
  obtain ⟨b1, b2, b3, b4, hb⟩ : ∃ a b c d, boxA l = .agg #[.int .i64 a, .int .i64 b, .int .i64 c, .int .i64 d] := by
    unfold boxA
    split
    · exact ⟨_, _, _, _, rfl⟩
    · exact ⟨_, _, _, _, rfl⟩
  obtain ⟨x1, x2, x3, hx⟩ : ∃ a b c, aggV (fndV l 3) = .agg #[.int .i64 a, .int .i64 b, .int .i64 c] := ⟨_, _, _, rfl⟩
  rw [hb] at FB
  rw [hx] at F0
  unfold blkB
  generalize boxB l = p at *
  generalize hasK l 3 = q at *
  clear hr hl hb hx
  cases p <;> cases q
  all_goals
    go_enter Tryd.func26, Tryd.ntmps26
    go_wp2_with fail
    refine Calls.mono (FB.out _ (HL.out.below ?bb)) ?_
    (case bb => exact (by repeat (first | with_reducible exact Below.refl _ _ | with_reducible assumption | with_reducible apply Ba | with_reducible apply Bd | with_reducible apply Bn | with_reducible apply Bg | (with_reducible refine Bs ?_ (by first | (simp; done) | (simp; omega)) _) | (with_reducible refine Bt ?_ (by assumption)) | (with_reducible refine Bt ?_ (Gr.below (by assumption))))))
    rintro e w1 ⟨rfl, hb1⟩
    go_wp2_with fail
    refine Calls.mono (F0.out _ (HL.out.below ?bb)) ?_
    (case bb => exact (by repeat (first | with_reducible exact Below.refl _ _ | with_reducible assumption | with_reducible apply Ba | with_reducible apply Bd | with_reducible apply Bn | with_reducible apply Bg | (with_reducible refine Bs ?_ (by first | (simp; done) | (simp; omega)) _) | (with_reducible refine Bt ?_ (by assumption)) | (with_reducible refine Bt ?_ (Gr.below (by assumption))))))
    rintro e w2 ⟨rfl, hg2⟩
    go_wp2
    go_ret
    exact ⟨rfl, (by repeat (first | with_reducible exact Below.refl _ _ | with_reducible assumption | with_reducible apply Ba | with_reducible apply Bd | with_reducible apply Bn | with_reducible apply Bg | (with_reducible refine Bs ?_ (by first | (simp; done) | (simp; omega)) _) | (with_reducible refine Bt ?_ (by assumption)) | (with_reducible refine Bt ?_ (Gr.below (by assumption)))))⟩
end Go.Proofs.YtbmclbajhgabgaaDoor
