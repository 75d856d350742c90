/-
  Maps of tiles are made: tiles.New, the reference's New.
-/
import Derived.Test.YtmeinjkpbijaeaaDoorMq14
namespace Go.Proofs.YtmeinjkpbijaeaaDoor
set_option linter.unusedSimpArgs false
set_option linter.unusedVariables false
open Go.RowKit Go.Sort Go.Lib Go.Shelf

theorem make_zs (n : Nat) (hn : n ≤ 1024) : ∃ Z : Array Value, Z.toList = flat encI (zs n) ∧ ∀ W : World, (Instr.makeSlice 50 (.int .i64 (n : Int)) (.int .i64 (n : Int))).run Tryd.prog W = .ok (.slice (some ⟨W.heap.size, 0, none⟩) n n) (W.alloc (.cells Z 3)) := by
  obtain ⟨i, hi, hz1, hs1, hb1⟩ := apI.hi
  refine ⟨madeCells #[.int .i64 0] n, ?_, fun W => ?_⟩
  · rw [toList_madeCells_one, flatI_zs]
  · have := run_make (P := Tryd.prog) W 50 3 i (.int .i64 0) apI.ht hi hz1 .i64 .i64 (n : Int) (n : Int) (by omega) (Int.le_refl _) (by rw [hb1]; omega) (by omega)
    rw [hs1, Int.toNat_natCast, Nat.mul_one] at this
    exact this
theorem tMap : (74 : Nat) ≠ 3 := by decide
theorem tRef : (59 : Nat) ≠ 3 := by decide
set_option maxHeartbeats 2000000 in
set_option maxRecDepth 100000 in
theorem new_form (g : Gd) (w : World) (eF : TypeId × Value) (hgl : w.cell? ⟨0, 0, none⟩ = some (.iface eF.1 eF.2)) (hg : grOk g = false) :
    Calls Tryd.prog 16 #[grV g] w fun e w' => e = .returned (.tuple #[.pointer none, .iface eF.1 eF.2]) ∧ RowKit.Below w.heap.size w w' := by
  obtain ⟨W, H, S, X, Y⟩ := g
  have RC := Lib.hid (fun W' => tright_any W H S X Y W')
  rw [hg] at RC
  have hlt := cell_lt hgl
  have B0 := Lib.hid (show RowKit.Below w.heap.size w (w.alloc (.cells #[.int .i64 W, .int .i64 H, .int .i64 S, .int .i64 X, .int .i64 Y] 23)) from (by repeat (first | with_reducible exact Below.refl _ _ | with_reducible assumption | with_reducible apply Ba | with_reducible apply Bd | with_reducible apply Bn | with_reducible apply Bg | (with_reducible refine Bs ?_ (by first | (simp; done) | (simp; omega)) _) | (with_reducible refine Bt ?_ (by assumption)) | (with_reducible refine Bt ?_ (Gr.below (by assumption))))))
  go_enter Tryd.func16, Tryd.ntmps16
  go_wp2_with fail
  refine (RC.out _).mono ?_
  rintro e w1 ⟨rfl, hb1⟩
  have hg1 := Bc (Bt B0.out hb1) hlt hgl
  have B1 := Lib.hid (Bt B0.out hb1)
  clear hb1
  go_wp2
  go_region
  go_wp2
  exact bodyPost_ret (v := .tuple #[.pointer none, .iface eF.1 eF.2]) (by simp [results, Tryd.results16, go_sem, *]) rfl ⟨rfl, by have := B1.out; exact (by repeat (first | with_reducible exact Below.refl _ _ | with_reducible assumption | with_reducible apply Ba | with_reducible apply Bd | with_reducible apply Bn | with_reducible apply Bg | (with_reducible refine Bs ?_ (by first | (simp; done) | (simp; omega)) _) | (with_reducible refine Bt ?_ (by assumption)) | (with_reducible refine Bt ?_ (Gr.below (by assumption)))))⟩
set_option maxHeartbeats 2000000 in
set_option maxRecDepth 100000 in
theorem new_call (g : Gd) (w : World) (hg : grOk g = true) :
    Calls Tryd.prog 16 #[grV g] w fun e w' => ∃ pa, e = .returned (.tuple #[ptP pa, .nilIface]) ∧ MpAt 74 w' (Fresh w w') pa g (zs (ntl g)) ∧ RowKit.Below w.heap.size w w' := by
  have hn := ntl_cast hg
  obtain ⟨Z, hZ, hmk⟩ := make_zs (ntl g) hn.2.1
  have MD := Lib.hid (fun W' hW' => mp_made (t := 74) (g := g) w W' Z (ntl g) hW' hn.2.1 hZ)
  generalize hnn : ntl g = n at *
  have HN := Lib.hid hnn
  clear hnn hZ
  obtain ⟨hn1, hn2, hn3⟩ := hn
  have hN := hn1.symm
  have HG := Lib.hid hg
  obtain ⟨W, H, S, X, Y⟩ := g
  have RC := Lib.hid (fun W' => tright_any W H S X Y W')
  rw [hg] at RC
  clear hg hn1
  dsimp only at *
  have B0 := Lib.hid (show RowKit.Below w.heap.size w (w.alloc (.cells #[.int .i64 W, .int .i64 H, .int .i64 S, .int .i64 X, .int .i64 Y] 23)) from (by repeat (first | with_reducible exact Below.refl _ _ | with_reducible assumption | with_reducible apply Ba | with_reducible apply Bd | with_reducible apply Bn | with_reducible apply Bg | (with_reducible refine Bs ?_ (by first | (simp; done) | (simp; omega)) _) | (with_reducible refine Bt ?_ (by assumption)) | (with_reducible refine Bt ?_ (Gr.below (by assumption))))))
  go_enter Tryd.func16, Tryd.ntmps16
  go_wp2_with fail
  refine (RC.out _).mono ?_
  rintro e w1 ⟨rfl, hb1⟩
  have k1 := blk_below (heap_alloc_new w (.cells #[.int .i64 W, .int .i64 H, .int .i64 S, .int .i64 X, .int .i64 Y] 23)) hb1
  obtain ⟨x1, x2, x3, x4, x5⟩ := cells5 k1
  have hl1 := cell_lt x1
  have B1 := Lib.hid (Bt B0.out hb1)
  clear hb1 k1
  go_wp2
  go_region
  go_wp2
  exact bodyPost_ret (v := .tuple #[.pointer (some ⟨w1.heap.size + 1, 0, none⟩), .nilIface]) (by simp [results, Tryd.results16, go_sem, *]) rfl ⟨_, rfl, ⟨⟨_, (MD.out w1 B1.out.size).below (Bd (Below.refl _ _))⟩, HG.out, by rw [HN.out]; exact zs_len n, tMap⟩, by have := B1.out; exact (by repeat (first | with_reducible exact Below.refl _ _ | with_reducible assumption | with_reducible apply Ba | with_reducible apply Bd | with_reducible apply Bn | with_reducible apply Bg | (with_reducible refine Bs ?_ (by first | (simp; done) | (simp; omega)) _) | (with_reducible refine Bt ?_ (by assumption)) | (with_reducible refine Bt ?_ (Gr.below (by assumption)))))⟩
set_option maxHeartbeats 2000000 in
set_option maxRecDepth 100000 in
theorem rnew_call (g : Gd) (w : World) (hg : grOk g = true) :
    Calls Tryd.prog 18 #[grV g] w fun e w' => ∃ pa, e = .returned (ptP pa) ∧ MpAt 59 w' (Fresh w w') pa g (zs (ntl g)) ∧ RowKit.Below w.heap.size w w' := by
  have hn := ntl_cast hg
  obtain ⟨Z, hZ, hmk⟩ := make_zs (ntl g) hn.2.1
  have MD := Lib.hid (fun W' hW' => mp_made (t := 59) (g := g) w W' Z (ntl g) hW' hn.2.1 hZ)
  generalize hnn : ntl g = n at *
  have HN := Lib.hid hnn
  clear hnn hZ
  obtain ⟨hn1, hn2, hn3⟩ := hn
  have hN := hn1.symm
  have HG := Lib.hid hg
  obtain ⟨W, H, S, X, Y⟩ := g
  clear hg hn1
  dsimp only at *
  obtain ⟨w1, hw1⟩ : ∃ w1, w1 = w.alloc (.cells #[.int .i64 W, .int .i64 H, .int .i64 S, .int .i64 X, .int .i64 Y] 23) := ⟨_, rfl⟩
  have B1 : Hid (RowKit.Below w.heap.size w w1) := Lib.hid (by rw [hw1]; exact (by repeat (first | with_reducible exact Below.refl _ _ | with_reducible assumption | with_reducible apply Ba | with_reducible apply Bd | with_reducible apply Bn | with_reducible apply Bg | (with_reducible refine Bs ?_ (by first | (simp; done) | (simp; omega)) _) | (with_reducible refine Bt ?_ (by assumption)) | (with_reducible refine Bt ?_ (Gr.below (by assumption))))))
  have k1 : w1.heap[w.heap.size]? = some (.cells #[.int .i64 W, .int .i64 H, .int .i64 S, .int .i64 X, .int .i64 Y] 23) := by rw [hw1]; exact heap_alloc_new w _
  obtain ⟨x1, x2, x3, x4, x5⟩ := cells5 k1
  have hl1 := cell_lt x1
  have HW := Lib.hid hw1
  clear hw1 k1
  go_enter Tryd.func18, Tryd.ntmps18
  go_wp2_with fail
  rw [← HW.out]
  go_region
  go_wp2
  go_ret
  exact ⟨_, rfl, ⟨⟨_, (MD.out w1 B1.out.size).below (Bd (Below.refl _ _))⟩, HG.out, by rw [HN.out]; exact zs_len n, tRef⟩, by have := B1.out; exact (by repeat (first | with_reducible exact Below.refl _ _ | with_reducible assumption | with_reducible apply Ba | with_reducible apply Bd | with_reducible apply Bn | with_reducible apply Bg | (with_reducible refine Bs ?_ (by first | (simp; done) | (simp; omega)) _) | (with_reducible refine Bt ?_ (by assumption)) | (with_reducible refine Bt ?_ (Gr.below (by assumption)))))⟩
end Go.Proofs.YtmeinjkpbijaeaaDoor
