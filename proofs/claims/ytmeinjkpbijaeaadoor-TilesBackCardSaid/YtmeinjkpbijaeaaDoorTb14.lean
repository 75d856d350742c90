/-
  Package tiles: Place.
-/
import Derived.Test.YtmeinjkpbijaeaaDoorTa14
namespace Go.Proofs.YtmeinjkpbijaeaaDoor
set_option linter.unusedSimpArgs false
set_option linter.unusedVariables false
open Go.RowKit Go.Sort Go.Lib Go.Shelf

set_option maxHeartbeats 2000000 in
set_option maxRecDepth 100000 in
theorem place_range (g : Gd) (t : Int) (w : World) (eR : TypeId × Value) (hgl : w.cell? ⟨1, 0, none⟩ = some (.iface eR.1 eR.2)) (hg : grOk g = true) (ht : btw t 0 (g.w * g.h - 1) = false) :
    Calls Tryd.prog 13 #[grV g, .int .i64 t] w fun e w' => e = .returned (.tuple #[.agg #[.int .i64 0, .int .i64 0], .iface eR.1 eR.2]) ∧ RowKit.Below w.heap.size w w' := by
  have hn := ntl_cast hg
  have hk := grOk_iff.1 hg
  obtain ⟨W, H, S, X, Y⟩ := g
  have RC := Lib.hid (fun W' => tright_any W H S X Y W')
  have BC := Lib.hid (fun W' => tbetween_any t 0 (W * H - 1) W')
  dsimp only at *
  rw [hg] at RC
  rw [ht] at BC
  obtain ⟨hn1, hn2, hn3⟩ := hn
  have hN := hn1.symm
  generalize ntl ⟨W, H, S, X, Y⟩ = n at *
  rw [hN] at BC
  clear hn1 ht
  have hlt := cell_lt hgl
  have B0 := Lib.hid (show RowKit.Below w.heap.size w ((w.alloc (.cells #[.int .i64 W, .int .i64 H, .int .i64 S, .int .i64 X, .int .i64 Y] 23)).alloc (.cells #[.int .i64 0, .int .i64 0] 25)) from (by repeat (first | with_reducible exact Below.refl _ _ | with_reducible assumption | with_reducible apply Ba | with_reducible apply Bd | with_reducible apply Bn | with_reducible apply Bg | (with_reducible refine Bs ?_ (by first | (simp; done) | (simp; omega)) _) | (with_reducible refine Bt ?_ (by assumption)) | (with_reducible refine Bt ?_ (Gr.below (by assumption))))))
  go_enter Tryd.func13, Tryd.ntmps13
  go_wp2_with fail
  refine (RC.out _).mono ?_
  rintro e w1 ⟨rfl, hb1⟩
  have hg1 := Bc (Bt B0.out hb1) hlt hgl
  obtain ⟨k1, k2, z1, z2⟩ := two_blk (w := w) (o1 := .cells #[.int .i64 W, .int .i64 H, .int .i64 S, .int .i64 X, .int .i64 Y] 23) (o2 := .cells #[.int .i64 0, .int .i64 0] 25) hb1
  obtain ⟨x1, x2, x3, x4, x5⟩ := cells5 k1
  obtain ⟨c1, c2, f1, f2⟩ := two_cells k2
  have B1 := Lib.hid (Bt B0.out hb1)
  clear hb1 k1 k2
  go_wp2_with fail
  refine (BC.out _).mono ?_
  rintro e w2 ⟨rfl, rfl⟩
  go_wp2
  go_region
  go_wp2
  exact bodyPost_ret (v := .tuple #[.agg #[.int .i64 0, .int .i64 0], .iface eR.1 eR.2]) (by simp [results, Tryd.results13, go_sem, *]) rfl ⟨rfl, by have := B1.out; exact (by repeat (first | with_reducible exact Below.refl _ _ | with_reducible assumption | with_reducible apply Ba | with_reducible apply Bd | with_reducible apply Bn | with_reducible apply Bg | (with_reducible refine Bs ?_ (by first | (simp; done) | (simp; omega)) _) | (with_reducible refine Bt ?_ (by assumption)) | (with_reducible refine Bt ?_ (Gr.below (by assumption)))))⟩

set_option maxHeartbeats 4000000 in
set_option maxRecDepth 100000 in
theorem place_ok (g : Gd) (t : Nat) (w : World) (hg : grOk g = true) (ht : t < ntl g) :
    Calls Tryd.prog 13 #[grV g, .int .i64 t] w fun e w' => e = .returned (.tuple #[.agg #[.int .i64 (tlX g t), .int .i64 (tlY g t)], .nilIface]) ∧ RowKit.Below w.heap.size w w' := by
  have hn := ntl_cast hg
  have k := grOk_iff.1 hg
  have m := tl_bd hg ht
  obtain ⟨⟨l1, l2⟩, l3, l4⟩ := tl_line hg ht
  unfold tlX tlY at *
  obtain ⟨W, H, S, X, Y⟩ := g
  have RC := Lib.hid (fun W' => tright_any W H S X Y W')
  have BC := Lib.hid (fun W' => tbetween_any t 0 (W * H - 1) W')
  dsimp only at *
  have e1 : ((t : Int)).tmod W = (t : Int) % W := Int.tmod_eq_emod_of_nonneg (by omega)
  have e2 : ((t : Int)).tdiv W = (t : Int) / W := Int.tdiv_eq_ediv_of_nonneg (by omega)
  have hW : ¬ W = 0 := by omega
  rw [hg] at RC
  obtain ⟨hn1, hn2, hn3⟩ := hn
  have hN := hn1.symm
  generalize ntl ⟨W, H, S, X, Y⟩ = n at *
  rw [hN, show btw (t : Int) 0 ((n : Int) - 1) = true from by simp [btw]; omega] at BC
  clear hn1 hg
  generalize (t : Int) % W = M at *
  generalize (t : Int) / W = D at *
  have p1 : wrap64 (M * S) = M * S := IntWalk.wrap64_in _ ⟨by omega, by omega⟩
  have p2 : wrap64 (D * S) = D * S := IntWalk.wrap64_in _ ⟨by omega, by omega⟩
  generalize hP : M * S = P at *
  generalize hQ : D * S = Q at *
  obtain ⟨⟨⟨m1, m2⟩, m3, m4⟩, ⟨m5, m6⟩, m7, m8⟩ := m
  obtain ⟨⟨k1, k2⟩, ⟨k3, k4⟩, ⟨k5, k6⟩, ⟨k7, k8⟩, k9, k10⟩ := k
  have B0 := Lib.hid (show RowKit.Below w.heap.size w ((w.alloc (.cells #[.int .i64 W, .int .i64 H, .int .i64 S, .int .i64 X, .int .i64 Y] 23)).alloc (.cells #[.int .i64 0, .int .i64 0] 25)) from (by repeat (first | with_reducible exact Below.refl _ _ | with_reducible assumption | with_reducible apply Ba | with_reducible apply Bd | with_reducible apply Bn | with_reducible apply Bg | (with_reducible refine Bs ?_ (by first | (simp; done) | (simp; omega)) _) | (with_reducible refine Bt ?_ (by assumption)) | (with_reducible refine Bt ?_ (Gr.below (by assumption))))))
  go_enter Tryd.func13, Tryd.ntmps13
  go_wp2_with fail
  refine (RC.out _).mono ?_
  rintro e w1 ⟨rfl, hb1⟩
  obtain ⟨k1, k2, z1, z2⟩ := two_blk (w := w) (o1 := .cells #[.int .i64 W, .int .i64 H, .int .i64 S, .int .i64 X, .int .i64 Y] 23) (o2 := .cells #[.int .i64 0, .int .i64 0] 25) hb1
  obtain ⟨x1, x2, x3, x4, x5⟩ := cells5 k1
  obtain ⟨c1, c2, f1, f2⟩ := two_cells k2
  have B1 := Lib.hid (Bt B0.out hb1)
  clear hb1 k1 k2
  go_wp2_with fail
  refine (BC.out _).mono ?_
  rintro e w2 ⟨rfl, rfl⟩
  go_wp2
  go_region
  go_wp2
  exact bodyPost_ret (v := .tuple #[.agg #[.int .i64 (X + P), .int .i64 (Y + Q)], .nilIface]) (by simp [results, Tryd.results13, go_sem, *]) rfl ⟨rfl, by have := B1.out; exact (by repeat (first | with_reducible exact Below.refl _ _ | with_reducible assumption | with_reducible apply Ba | with_reducible apply Bd | with_reducible apply Bn | with_reducible apply Bg | (with_reducible refine Bs ?_ (by first | (simp; done) | (simp; omega)) _) | (with_reducible refine Bt ?_ (by assumption)) | (with_reducible refine Bt ?_ (Gr.below (by assumption)))))⟩
end Go.Proofs.YtmeinjkpbijaeaaDoor
