/-
  Package tiles: At, Place.
-/
import Derived.Test.YtmeinjkpbijaeaaDoorTu14
import Derived.BigRegion
namespace Go.Proofs.YtmeinjkpbijaeaaDoor
set_option linter.unusedSimpArgs false
set_option linter.unusedVariables false
open Go.RowKit Go.Sort Go.Lib Go.Shelf

theorem sl_of_own {w : World} {base : Nat} {v : Value} {l : List Int} (h : OwnI w base v l) : Sl encI w v l := row_sl lenI h rfl
set_option maxHeartbeats 2000000 in
set_option maxRecDepth 100000 in
theorem tat_call (g : Gd) (x y : Int) (w : World) : Calls Tryd.prog 9 #[grV g, .agg #[.int .i64 x, .int .i64 y]] w fun e w' => e = .returned (.tuple #[.int .i64 (atG g (x, y)), .bool (decide (0 ≤ atG g (x, y)))]) ∧ RowKit.Below w.heap.size w w' := by
  have hp := at_pos g (x, y)
  have hu := at_und g (x, y)
  have UC := Lib.hid (fun W' => tunder_call g (ptB (x, y)) W')
  unfold ptB at hp hu UC
  dsimp only at hp hu UC
  obtain ⟨W, H, S, X, Y⟩ := g
  generalize atG ⟨W, H, S, X, Y⟩ (x, y) = r at *
  generalize und ⟨W, H, S, X, Y⟩ (x, y, x, y) = U at *
  cases U with
  | nil =>
    obtain rfl : r = -1 := hu
    clear hp
    go_enter Tryd.func9, Tryd.ntmps9
    go_wp2_with fail
    refine (UC.out _).mono ?_
    rintro e w1 ⟨v, rfl, ho, hb1⟩
    obtain ⟨p, cap, rfl, h1, h2, h3⟩ := row_val ho
    have B1 := Lib.hid (by exact (by repeat (first | with_reducible exact Below.refl _ _ | with_reducible assumption | with_reducible apply Ba | with_reducible apply Bd | with_reducible apply Bn | with_reducible apply Bg | (with_reducible refine Bs ?_ (by first | (simp; done) | (simp; omega)) _) | (with_reducible refine Bt ?_ (by assumption)) | (with_reducible refine Bt ?_ (Gr.below (by assumption))))) : RowKit.Below w.heap.size w w1)
    clear ho hb1 h1 h2 h3
    go_wp2
    exact bodyPost_ret (v := .tuple #[.int .i64 (-1), .bool false]) (by simp [results, Tryd.results9, go_sem, *]) rfl ⟨rfl, B1.out⟩
  | cons a t =>
    obtain rfl : r = a := hu
    have hd : decide (0 ≤ r) = true := decide_eq_true (hp.2 (by simp))
    rw [hd]
    clear hp hd
    go_enter Tryd.func9, Tryd.ntmps9
    go_wp2_with fail
    refine (UC.out _).mono ?_
    rintro e w1 ⟨v, rfl, ho, hb1⟩
    obtain ⟨p, cap, rfl, h1, h2, h3⟩ := row_val ho
    obtain ⟨gb, rfl, hgl, -⟩ := h3 (by simp)
    have c1 := row_cell1 (enc := encI) (c := Value.int .i64) (fun _ => rfl) ho 0 (by simp)
    rw [show (r :: t)[0]! = r from rfl] at c1
    have hl : (r :: t).length = t.length + 1 := rfl
    rw [hl] at *
    have B1 := Lib.hid (by exact (by repeat (first | with_reducible exact Below.refl _ _ | with_reducible assumption | with_reducible apply Ba | with_reducible apply Bd | with_reducible apply Bn | with_reducible apply Bg | (with_reducible refine Bs ?_ (by first | (simp; done) | (simp; omega)) _) | (with_reducible refine Bt ?_ (by assumption)) | (with_reducible refine Bt ?_ (Gr.below (by assumption))))) : RowKit.Below w.heap.size w w1)
    clear ho hb1 h1 h2 h3
    go_wp2
    exact bodyPost_ret (v := .tuple #[.int .i64 r, .bool true]) (by simp [results, Tryd.results9, go_sem, *]) rfl ⟨rfl, B1.out⟩

set_option maxHeartbeats 2000000 in
set_option maxRecDepth 100000 in
theorem place_form (g : Gd) (t : Int) (w : World) (eF : TypeId × Value) (hgl : w.cell? ⟨0, 0, none⟩ = some (.iface eF.1 eF.2)) (hg : grOk g = false) :
    Calls Tryd.prog 13 #[grV g, .int .i64 t] w fun e w' => e = .returned (.tuple #[.agg #[.int .i64 0, .int .i64 0], .iface eF.1 eF.2]) ∧ RowKit.Below w.heap.size w w' := by
  obtain ⟨W, H, S, X, Y⟩ := g
  have RC := Lib.hid (fun W' => tright_any W H S X Y W')
  rw [hg] at RC
  have hlt := cell_lt hgl
  have B0 := Lib.hid (show RowKit.Below w.heap.size w ((w.alloc (.cells #[.int .i64 W, .int .i64 H, .int .i64 S, .int .i64 X, .int .i64 Y] 23)).alloc (.cells #[.int .i64 0, .int .i64 0] 25)) from (by repeat (first | with_reducible exact Below.refl _ _ | with_reducible assumption | with_reducible apply Ba | with_reducible apply Bd | with_reducible apply Bn | with_reducible apply Bg | (with_reducible refine Bs ?_ (by first | (simp; done) | (simp; omega)) _) | (with_reducible refine Bt ?_ (by assumption)) | (with_reducible refine Bt ?_ (Gr.below (by assumption))))))
  go_enter Tryd.func13, Tryd.ntmps13
  go_wp2_with fail
  refine (RC.out _).mono ?_
  rintro e w1 ⟨rfl, hb1⟩
  have hg1 := Bc (Bt B0.out hb1) hlt hgl
  obtain ⟨k1, k2, z1, z2⟩ := two_blk (w := w) (o1 := .cells #[.int .i64 W, .int .i64 H, .int .i64 S, .int .i64 X, .int .i64 Y] 23) (o2 := .cells #[.int .i64 0, .int .i64 0] 25) hb1
  obtain ⟨c1, c2, f1, f2⟩ := two_cells k2
  have B1 := Lib.hid (Bt B0.out hb1)
  clear hb1 k1 k2
  go_wp2
  go_region
  go_wp2
  exact bodyPost_ret (v := .tuple #[.agg #[.int .i64 0, .int .i64 0], .iface eF.1 eF.2]) (by simp [results, Tryd.results13, go_sem, *]) rfl ⟨rfl, by have := B1.out; exact (by repeat (first | with_reducible exact Below.refl _ _ | with_reducible assumption | with_reducible apply Ba | with_reducible apply Bd | with_reducible apply Bn | with_reducible apply Bg | (with_reducible refine Bs ?_ (by first | (simp; done) | (simp; omega)) _) | (with_reducible refine Bt ?_ (by assumption)) | (with_reducible refine Bt ?_ (Gr.below (by assumption)))))⟩
end Go.Proofs.YtmeinjkpbijaeaaDoor
