/-
  Package tiles: At, Place.
-/
import Derived.Test.YtmeinjkpbijaeaaTu14
import Derived.BigRegion
namespace Go.Proofs.Ytmeinjkpbijaeaa
set_option linter.unusedSimpArgs false
set_option linter.unusedVariables false
open Go.RowKit Go.Sort Go.Lib Go.Shelf

theorem sl_of_own {w : World} {base : Nat} {v : Value} {l : List Int} (h : OwnI w base v l) : Sl encI w v l := row_sl lenI h rfl
set_option maxHeartbeats 2000000 in
set_option maxRecDepth 100000 in
theorem tat_call (g : Gd) (x y : Int) (w : World) : Calls Try.prog 8 #[grV g, .agg #[.int .i64 x, .int .i64 y]] w fun e w' => e = .returned (.tuple #[.int .i64 (atG g (x, y)), .bool (decide (0 ≤ atG g (x, y)))]) ∧ RowKit.Below w.heap.size w w' := by
  have hp := at_pos g (x, y)
  have hu := at_und g (x, y)
  have UC := Lib.hid (fun W' => tunder_call g (ptB (x, y)) W')
  unfold ptB at hp hu UC
  dsimp only at hp hu UC
  obtain ⟨W, H, S, X, Y⟩ := g
  generalize atG ⟨W, H, S, X, Y⟩ (x, y) = r at *
  generalize und ⟨W, H, S, X, Y⟩ (x, y, x, y) = U at *
  cases U with
  | nil =>
    obtain rfl : r = -1 := hu
    clear hp
    go_enter Try.func8, Try.ntmps8
    go_wp2_with fail
    refine (UC.out _).mono ?_
    rintro e w1 ⟨v, rfl, ho, hb1⟩
    obtain ⟨p, cap, rfl, h1, h2, h3⟩ := row_val ho
    have B1 := Lib.hid (by exact (by repeat (first | with_reducible exact Below.refl _ _ | with_reducible assumption | with_reducible apply Ba | with_reducible apply Bd | with_reducible apply Bn | with_reducible apply Bg | (with_reducible refine Bs ?_ (by first | (simp; done) | (simp; omega)) _) | (with_reducible refine Bt ?_ (by assumption)) | (with_reducible refine Bt ?_ (Gr.below (by assumption))))) : RowKit.Below w.heap.size w w1)
    clear ho hb1 h1 h2 h3
    go_wp2
    exact bodyPost_ret (v := .tuple #[.int .i64 (-1), .bool false]) (by simp [results, Try.results8, go_sem, *]) rfl ⟨rfl, B1.out⟩
  | cons a t =>
    obtain rfl : r = a := hu
    have hd : decide (0 ≤ r) = true := decide_eq_true (hp.2 (by simp))
    rw [hd]
    clear hp hd
    go_enter Try.func8, Try.ntmps8
    go_wp2_with fail
    refine (UC.out _).mono ?_
    rintro e w1 ⟨v, rfl, ho, hb1⟩
    obtain ⟨p, cap, rfl, h1, h2, h3⟩ := row_val ho
    obtain ⟨gb, rfl, hgl, -⟩ := h3 (by simp)
    have c1 := row_cell1 (enc := encI) (c := Value.int .i64) (fun _ => rfl) ho 0 (by simp)
    rw [show (r :: t)[0]! = r from rfl] at c1
    have hl : (r :: t).length = t.length + 1 := rfl
    rw [hl] at *
    have B1 := Lib.hid (by exact (by repeat (first | with_reducible exact Below.refl _ _ | with_reducible assumption | with_reducible apply Ba | with_reducible apply Bd | with_reducible apply Bn | with_reducible apply Bg | (with_reducible refine Bs ?_ (by first | (simp; done) | (simp; omega)) _) | (with_reducible refine Bt ?_ (by assumption)) | (with_reducible refine Bt ?_ (Gr.below (by assumption))))) : RowKit.Below w.heap.size w w1)
    clear ho hb1 h1 h2 h3
    go_wp2
    exact bodyPost_ret (v := .tuple #[.int .i64 r, .bool true]) (by simp [results, Try.results8, go_sem, *]) rfl ⟨rfl, B1.out⟩

end Go.Proofs.Ytmeinjkpbijaeaa
