/-
  The reference of tiles: Right, Tile, At, Under.
-/
import Derived.Test.YtmeinjkpbijaeaaOp14
import Derived.Test.YtmeinjkpbijaeaaPw11
import Derived.Test.YtmeinjkpbijaeaaFc
namespace Go.Proofs.Ytmeinjkpbijaeaa
set_option linter.unusedSimpArgs false
set_option linter.unusedVariables false
open Go.RowKit Go.Sort Go.Lib Go.Shelf

theorem grOk_in (W H S X Y : Int) : grOk ⟨W, H, S, X, Y⟩ = (decide (1 ≤ W) && (decide (W ≤ 32) && (decide (1 ≤ H) && (decide (H ≤ 32) && (decide (1 ≤ S) && (decide (S ≤ 65536) && (inB X 1048576 && inB Y 1048576))))))) := by
  rw [Bool.eq_iff_iff, grOk_iff]
  simp only [inB, Bool.and_eq_true, decide_eq_true_eq]
  omega
set_option maxHeartbeats 1000000 in
theorem rgright_any (W H S X Y : Int) (w : World) :
    Calls Try.prog 12 #[.agg #[.int .i64 W, .int .i64 H, .int .i64 S, .int .i64 X, .int .i64 Y]] w fun e w' => e = .returned (.bool (grOk ⟨W, H, S, X, Y⟩)) ∧ Below w.heap.size w w' := by
  go_enter Try.func12, Try.ntmps12
  go_wp2_with (go_at_call 19; refine (in_any _ _ _ (by omega) (by omega)).mono ?_; rintro e w' ⟨rfl, rfl⟩)
  all_goals (go_ret; exact ⟨ret_bool (by rw [grOk_in]; simp [*] <;> (intros; omega)), (by repeat (first | with_reducible exact Below.refl _ _ | with_reducible assumption | with_reducible apply Ba | with_reducible apply Bd | with_reducible apply Bn | with_reducible apply Bg | (with_reducible refine Bs ?_ (by first | (simp; done) | (simp; omega)) _) | (with_reducible refine Bt ?_ (by assumption)) | (with_reducible refine Bt ?_ (Gr.below (by assumption)))))⟩)

set_option maxHeartbeats 2000000 in
set_option maxRecDepth 100000 in
theorem rtile_call (W H S X Y : Int) (t : Nat) (w : World) (hg : grOk ⟨W, H, S, X, Y⟩ = true) (ht : t < ntl ⟨W, H, S, X, Y⟩) :
    Calls Try.prog 15 #[.agg #[.int .i64 W, .int .i64 H, .int .i64 S, .int .i64 X, .int .i64 Y], .int .i64 t] w fun e w' => e = .returned (bxV (tlB ⟨W, H, S, X, Y⟩ t)) ∧ Below w.heap.size w w' := by
  have k := grOk_iff.1 hg
  have m := tl_bd hg ht
  have n := ntl_cast hg
  obtain ⟨⟨l1, l2⟩, l3, l4⟩ := tl_line hg ht
  have e1 : ((t : Int)).tmod W = (t : Int) % W := Int.tmod_eq_emod_of_nonneg (by omega)
  have e2 : ((t : Int)).tdiv W = (t : Int) / W := Int.tdiv_eq_ediv_of_nonneg (by omega)
  unfold tlB
  unfold tlX tlY at *
  dsimp only at *
  have hW : ¬ W = 0 := by omega
  generalize ntl ⟨W, H, S, X, Y⟩ = N at *
  generalize (t : Int) % W = M at *
  generalize (t : Int) / W = D at *
  clear hg
  have p1 : wrap64 (M * S) = M * S := IntWalk.wrap64_in _ ⟨by omega, by omega⟩
  have p2 : wrap64 (D * S) = D * S := IntWalk.wrap64_in _ ⟨by omega, by omega⟩
  generalize hP : M * S = P at *
  generalize hQ : D * S = Q at *
  obtain ⟨⟨⟨m1, m2⟩, m3, m4⟩, ⟨m5, m6⟩, m7, m8⟩ := m
  obtain ⟨⟨k1, k2⟩, ⟨k3, k4⟩, ⟨k5, k6⟩, ⟨k7, k8⟩, k9, k10⟩ := k
  go_enter Try.func15, Try.ntmps15
  go_wp2
  go_region
  go_wp2
  exact bodyPost_ret (v := bxV (X + P, Y + Q, X + P + S - 1, Y + Q + S - 1)) (by simp [results, Try.results15, go_sem, *]) rfl ⟨rfl, (by repeat (first | with_reducible exact Below.refl _ _ | with_reducible assumption | with_reducible apply Ba | with_reducible apply Bd | with_reducible apply Bn | with_reducible apply Bg | (with_reducible refine Bs ?_ (by first | (simp; done) | (simp; omega)) _) | (with_reducible refine Bt ?_ (by assumption)) | (with_reducible refine Bt ?_ (Gr.below (by assumption)))))⟩

theorem rtile_any (g : Gd) (t : Nat) (w : World) (hg : grOk g = true) (ht : t < ntl g) :
    Calls Try.prog 15 #[grV g, .int .i64 t] w fun e w' => e = .returned (bxV (tlB g t)) ∧ Below w.heap.size w w' := by
  obtain ⟨W, H, S, X, Y⟩ := g
  exact rtile_call W H S X Y t w hg ht
def rhasB (a b c d x y : Int) : Bool := decide (a ≤ x) && (decide (x ≤ c) && (decide (b ≤ y) && decide (y ≤ d)))
theorem rhas_is (a b c d x y : Int) : rhasB a b c d x y = meets4 (a, b, c, d) (ptB (x, y)) := by
  show _ = !(decide (c < x) || (decide (x < a) || (decide (d < y) || decide (y < b))))
  rw [Bool.eq_iff_iff]
  simp only [rhasB, Bool.and_eq_true, decide_eq_true_eq, Bool.not_eq_true', Bool.or_eq_false_iff, decide_eq_false_iff_not]
  omega
theorem rmeets_is (a b c d p q r s : Int) : rmeetsB a b c d p q r s = meets4 (a, b, c, d) (p, q, r, s) := rfl
theorem rmeets_hit (g : Gd) (b : Bx4) (t : Nat) (w : World) :
    Calls Try.prog 14 #[bxV (tlB g t), bxV b] w fun e w' => e = .returned (.bool (hitT g b t)) ∧ Below w.heap.size w w' := by
  obtain ⟨b1, b2, b3, b4⟩ := b
  exact rmeets_any _ _ _ _ _ _ _ _ w
theorem rright_okX (x1 x2 x3 x4 : Int) : rrightB x1 x2 x3 x4 = okX (x1, x2, x3, x4) := by
  rw [Bool.eq_iff_iff, okX_iff]
  simp only [rrightB, inB, Bool.and_eq_true, decide_eq_true_eq]
  omega
end Go.Proofs.Ytmeinjkpbijaeaa
