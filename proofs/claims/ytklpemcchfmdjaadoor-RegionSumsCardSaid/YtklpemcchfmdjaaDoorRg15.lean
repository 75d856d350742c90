/-
  Regions: New, Labels, Label, Together, Size, Count, Clone.
-/
import Derived.Test.YtklpemcchfmdjaaDoorCh15
import Derived.Test.YtklpemcchfmdjaaDoorErrK
import Derived.Test.YtklpemcchfmdjaaDoorTl14
namespace Go.Proofs.YtklpemcchfmdjaaDoor
set_option linter.unusedSimpArgs false
set_option linter.unusedVariables false
open Go.RowKit Go.Sort Go.Lib Go.Shelf

theorem labG_free {g : Gd} (h : grOk g = true) : labG g (nots (ntl g)) = List.replicate (ntl g) 0 := by
  have e : ntl g = g.h.toNat * g.w.toNat := by
    have := grG_n h (nots (ntl g))
    unfold grG at this
    rw [dif_pos h] at this
    exact this.symm
  unfold labG grG
  rw [dif_pos h]
  have := labs_free (gw_pos h) (H := g.h.toNat) (fun t => (nots (ntl g))[t]!) (fun t ht => nots_get (by rw [e]; exact ht))
  rw [← e] at this
  exact this
/-- At block pa are the regions of grid g of which b are blocked. -/
def RgIs (w : World) (M : Nat → Prop) (pa : Nat) (g : Gd) (b : List Bool) : Prop := ∃ v, RgV w M pa v g.w (labG g b)
structure RgAt (w : World) (M : Nat → Prop) (pa : Nat) (g : Gd) (b : List Bool) : Prop where
  is : RgIs w M pa g b
  ok : grOk g = true
  len : b.length = ntl g
section
variable {pa : Nat} {g : Gd} {b : List Bool} {M : Nat → Prop} {w w' : World}
theorem RgIs.kept {R : Nat → Prop} (h : RgIs w R pa g b) (t : Tch M w w') (hd : ∀ b, R b → ¬ M b) : RgIs w' R pa g b := h.imp fun _ q => q.kept t hd
theorem RgIs.below (h : RgIs w M pa g b) (t : RowKit.Below w.heap.size w w') : RgIs w' M pa g b := h.imp fun _ q => q.below t
theorem RgIs.mono {M' : Nat → Prop} (h : RgIs w M pa g b) (hM : ∀ b, M b → M' b) : RgIs w M' pa g b := h.imp fun _ q => q.mono hM
theorem RgAt.kept {R : Nat → Prop} (h : RgAt w R pa g b) (t : Tch M w w') (hd : ∀ b, R b → ¬ M b) : RgAt w' R pa g b := ⟨h.is.kept t hd, h.ok, h.len⟩
theorem RgAt.below (h : RgAt w M pa g b) (t : RowKit.Below w.heap.size w w') : RgAt w' M pa g b := ⟨h.is.below t, h.ok, h.len⟩
theorem RgAt.mono {M' : Nat → Prop} (h : RgAt w M pa g b) (hM : ∀ b, M b → M' b) : RgAt w M' pa g b := ⟨h.is.mono hM, h.ok, h.len⟩
/-- What a walk needs. -/
theorem RgAt.open (h : RgAt w M pa g b) : ∃ v, RgV w M pa v g.w (labG g b) ∧ (labG g b).length = ntl g ∧ 1 ≤ ntl g ∧ ntl g ≤ 1024 := by
  obtain ⟨v, q⟩ := h.is
  have := ntl_cast h.ok
  exact ⟨v, q, labG_len h.ok b, by omega, by omega⟩
theorem flatI_zs' (n : Nat) : flat encI (List.replicate n 0) = List.replicate n (Value.int .i64 0) := by
  rw [flat1 encI1']
  simp
theorem make_is (n : Nat) (hn : n ≤ 1024) : ∃ Z : Array Value, Z.toList = flat encI (List.replicate n 0) ∧ ∀ W : World, (Instr.makeSlice 35 (.int .i64 (n : Int)) (.int .i64 (n : Int))).run Tryd.prog W = .ok (.slice (some ⟨W.heap.size, 0, none⟩) n n) (W.alloc (.cells Z 3)) := by
  obtain ⟨i, hi, hz1, hs1, hb1⟩ := apI.hi
  refine ⟨madeCells #[.int .i64 0] n, ?_, fun W => ?_⟩
  · rw [toList_madeCells_one, flatI_zs']
  · have := run_make (P := Tryd.prog) W 35 3 i (.int .i64 0) apI.ht hi hz1 .i64 .i64 (n : Int) (n : Int) (by omega) (Int.le_refl _) (by rw [hb1]; omega) (by omega)
    rw [hs1, Int.toNat_natCast, Nat.mul_one] at this
    exact this
/-- Regions that the call has made. -/
theorem rg_made (w W : World) (gw : Int) (cs : Array Value) (n : Nat) (hw : w.heap.size ≤ W.heap.size) (hn : n ≤ 1024) (hc : cs.toList = flat encI (List.replicate n 0)) :
    RgV ((W.alloc (.cells cs 3)).alloc (.cells #[.int .i64 gw, .slice (some ⟨W.heap.size, 0, none⟩) n n] 57)) (Fresh w ((W.alloc (.cells cs 3)).alloc (.cells #[.int .i64 gw, .slice (some ⟨W.heap.size, 0, none⟩) n n] 57))) (W.heap.size + 1) (.slice (some ⟨W.heap.size, 0, none⟩) n n) gw (List.replicate n 0) := by
  have hs : cs.size = n * 1 := by
    have := congrArg List.length hc
    rw [flat_len lenI, List.length_replicate] at this
    simpa using this
  have h1 : (W.alloc (.cells cs 3)).ownsRow w.heap.size 3 1 (.slice (some ⟨W.heap.size, 0, none⟩) n n) n cs.toList := World.ownsRow_lit W cs n hw (by unfold maxLen; omega) hs
  rw [hc] at h1
  have h2 := row_below h1 (Ba (Below.refl _ (W.alloc (.cells cs 3))) (.cells #[.int .i64 gw, .slice (some ⟨W.heap.size, 0, none⟩) n n] 57))
  have h3 := heap_alloc_new (W.alloc (.cells cs 3)) (.cells #[.int .i64 gw, .slice (some ⟨W.heap.size, 0, none⟩) n n] 57)
  rw [show (W.alloc (.cells cs 3)).heap.size = W.heap.size + 1 by simp] at h3
  refine ⟨h3, .inr ⟨by omega, by simp⟩, row_fresh (w := w) ?_⟩
  rw [List.length_replicate]
  exact h2
set_option maxHeartbeats 2000000 in
set_option maxRecDepth 100000 in
theorem rgnew_form (g : Gd) (w : World) (eF : TypeId × Value) (hgl : w.cell? ⟨0, 0, none⟩ = some (.iface eF.1 eF.2)) (hg : grOk g = false) :
    Calls Tryd.prog 8 #[grV g] w fun e w' => e = .returned (.tuple #[.pointer none, .iface eF.1 eF.2]) ∧ RowKit.Below w.heap.size w w' := by
  obtain ⟨W, H, S, X, Y⟩ := g
  have RC := Lib.hid (fun W' => tright_any W H S X Y W')
  rw [hg] at RC
  have hlt := cell_lt hgl
  have B0 := Lib.hid (show RowKit.Below w.heap.size w (w.alloc (.cells #[.int .i64 W, .int .i64 H, .int .i64 S, .int .i64 X, .int .i64 Y] 23)) from (by repeat (first | with_reducible exact Below.refl _ _ | with_reducible assumption | with_reducible apply Ba | with_reducible apply Bd | with_reducible apply Bn | with_reducible apply Bg | (with_reducible refine Bs ?_ (by first | (simp; done) | (simp; omega)) _) | (with_reducible refine Bt ?_ (by assumption)) | (with_reducible refine Bt ?_ (Gr.below (by assumption))))))
  go_enter Tryd.func8, Tryd.ntmps8
  go_wp2_with fail
  refine (RC.out _).mono ?_
  rintro e w1 ⟨rfl, hb1⟩
  have hg1 := Bc (Bt B0.out hb1) hlt hgl
  have B1 := Lib.hid (Bt B0.out hb1)
  clear hb1
  go_wp2
  go_region
  go_wp2
  exact bodyPost_ret (v := .tuple #[.pointer none, .iface eF.1 eF.2]) (by simp [results, Tryd.results8, go_sem, *]) rfl ⟨rfl, by have := B1.out; exact (by repeat (first | with_reducible exact Below.refl _ _ | with_reducible assumption | with_reducible apply Ba | with_reducible apply Bd | with_reducible apply Bn | with_reducible apply Bg | (with_reducible refine Bs ?_ (by first | (simp; done) | (simp; omega)) _) | (with_reducible refine Bt ?_ (by assumption)) | (with_reducible refine Bt ?_ (Gr.below (by assumption)))))⟩
set_option maxHeartbeats 2000000 in
set_option maxRecDepth 100000 in
theorem rgnew_call (g : Gd) (w : World) (hg : grOk g = true) :
    Calls Tryd.prog 8 #[grV g] w fun e w' => ∃ pa, e = .returned (.tuple #[psR pa, .nilIface]) ∧ RgAt w' (Fresh w w') pa g (nots (ntl g)) ∧ RowKit.Below w.heap.size w w' := by
  have hn := ntl_cast hg
  obtain ⟨Z, hZ, hmk⟩ := make_is (ntl g) hn.2.1
  have LF := Lib.hid (labG_free hg)
  have MD := Lib.hid (fun W' hW' => rg_made w W' g.w Z (ntl g) hW' hn.2.1 hZ)
  generalize hnn : ntl g = n at *
  have HN := Lib.hid hnn
  clear hnn hZ
  obtain ⟨hn1, hn2, hn3⟩ := hn
  have hN := hn1.symm
  have HG := Lib.hid hg
  obtain ⟨W, H, S, X, Y⟩ := g
  have RC := Lib.hid (fun W' => tright_any W H S X Y W')
  rw [hg] at RC
  clear hg hn1
  dsimp only at *
  have B0 := Lib.hid (show RowKit.Below w.heap.size w (w.alloc (.cells #[.int .i64 W, .int .i64 H, .int .i64 S, .int .i64 X, .int .i64 Y] 23)) from (by repeat (first | with_reducible exact Below.refl _ _ | with_reducible assumption | with_reducible apply Ba | with_reducible apply Bd | with_reducible apply Bn | with_reducible apply Bg | (with_reducible refine Bs ?_ (by first | (simp; done) | (simp; omega)) _) | (with_reducible refine Bt ?_ (by assumption)) | (with_reducible refine Bt ?_ (Gr.below (by assumption))))))
  go_enter Tryd.func8, Tryd.ntmps8
  go_wp2_with fail
  refine (RC.out _).mono ?_
  rintro e w1 ⟨rfl, hb1⟩
  have k1 := blk_below (heap_alloc_new w (.cells #[.int .i64 W, .int .i64 H, .int .i64 S, .int .i64 X, .int .i64 Y] 23)) hb1
  obtain ⟨x1, x2, x3, x4, x5⟩ := cells5 k1
  have hl1 := cell_lt x1
  have B1 := Lib.hid (Bt B0.out hb1)
  clear hb1 k1
  go_wp2
  go_region
  go_wp2
  exact bodyPost_ret (v := .tuple #[.pointer (some ⟨w1.heap.size + 1, 0, none⟩), .nilIface]) (by simp [results, Tryd.results8, go_sem, *]) rfl ⟨_, rfl, ⟨⟨_, by rw [LF.out]; exact (MD.out w1 B1.out.size).below (Bd (Below.refl _ _))⟩, HG.out, by rw [HN.out]; exact nots_len n⟩, by have := B1.out; exact (by repeat (first | with_reducible exact Below.refl _ _ | with_reducible assumption | with_reducible apply Ba | with_reducible apply Bd | with_reducible apply Bn | with_reducible apply Bg | (with_reducible refine Bs ?_ (by first | (simp; done) | (simp; omega)) _) | (with_reducible refine Bt ?_ (by assumption)) | (with_reducible refine Bt ?_ (Gr.below (by assumption)))))⟩
set_option maxHeartbeats 1000000 in
set_option maxRecDepth 100000 in
theorem labels_call (h : RgAt w M pa g b) : Calls Tryd.prog 25 #[psR pa] w fun e w' => ∃ v, e = .returned v ∧ OwnI w' w.heap.size v (labG g b) ∧ RowKit.Below w.heap.size w w' := by
  obtain ⟨v, hv, hl, h1, h2⟩ := h.open
  obtain ⟨blk, cap, rfl, k1, k2, k3, k4, k5⟩ := hv.open (by omega) (by omega)
  have hlt := hv.lt
  obtain ⟨c0, c1⟩ := hv.cells
  have CL := Lib.hid (cloneI_call (labG g b) _ w (hv.2.2.sl lenI) (by omega) (by omega))
  clear hv
  generalize labG g b = L at *
  rw [hl] at CL c1 k1
  generalize ntl g = n at *
  clear hl h
  unfold psR
  go_enter Tryd.func25, Tryd.ntmps25
  go_wp2_with fail
  refine CL.out.mono ?_
  rintro e w1 ⟨v1, rfl, ho, hb⟩
  have HO := Lib.hid ho
  have HB := Lib.hid hb
  obtain ⟨p, cap1, rfl, _, _, _⟩ := row_val ho
  clear ho hb
  go_wp2
  go_ret
  exact ⟨_, rfl, HO.out, HB.out⟩
set_option maxHeartbeats 1000000 in
set_option maxRecDepth 100000 in
theorem label_call (h : RgAt w M pa g b) (t : Int) (eR : TypeId × Value) (hR : w.cell? ⟨1, 0, none⟩ = some (.iface eR.1 eR.2)) : Calls Tryd.prog 20 #[psR pa, .int .i64 t] w fun e w' =>
    e = .returned (if inT (ntl g) t then .tuple #[.int .i64 (labG g b)[t.toNat]!, .nilIface] else .tuple #[.int .i64 0, .iface eR.1 eR.2]) ∧ RowKit.Below w.heap.size w w' := by
  obtain ⟨v, hv, hl, h1, h2⟩ := h.open
  obtain ⟨blk, cap, rfl, k1, k2, k3, k4, k5⟩ := hv.open (by omega) (by omega)
  have hlt := hv.lt
  obtain ⟨c0, c1⟩ := hv.cells
  have LC := Lib.hid (lacks_call hv (by omega) (by omega) t)
  have hrl := cell_lt hR
  rw [hl] at LC c1 k1
  generalize hnn : ntl g = n at *
  cases hh : inT n t
  · rw [hh] at LC
    rw [if_neg (by simp)]
    clear hv h
    unfold psR at *
    go_enter Tryd.func20, Tryd.ntmps20
    go_wp2_with fail
    refine LC.out.mono ?_
    rintro e w1 ⟨rfl, rfl⟩
    go_wp2
    go_region
    go_wp2
    exact bodyPost_ret (v := .tuple #[.int .i64 0, .iface eR.1 eR.2]) (by simp [results, Tryd.results20, go_sem, *]) rfl ⟨rfl, (by repeat (first | with_reducible exact Below.refl _ _ | with_reducible assumption | with_reducible apply Ba | with_reducible apply Bd | with_reducible apply Bn | with_reducible apply Bg | (with_reducible refine Bs ?_ (by first | (simp; done) | (simp; omega)) _) | (with_reducible refine Bt ?_ (by assumption)) | (with_reducible refine Bt ?_ (Gr.below (by assumption)))))⟩
  · rw [hh] at LC
    rw [if_pos rfl]
    obtain ⟨t0, t1⟩ := inT_iff.1 hh
    obtain ⟨k, rfl⟩ : ∃ k : Nat, t = k := ⟨t.toNat, by omega⟩
    rw [Int.toNat_natCast]
    have hk : k < n := by omega
    obtain ⟨d1, -⟩ := hv.get (j := k) (by rw [hl]; exact hk)
    clear hv h hh
    generalize (labG g b)[k]! = x at *
    unfold psR at *
    go_enter Tryd.func20, Tryd.ntmps20
    go_wp2_with fail
    refine LC.out.mono ?_
    rintro e w1 ⟨rfl, rfl⟩
    go_wp2
    exact bodyPost_ret (v := .tuple #[.int .i64 x, .nilIface]) (by simp [results, Tryd.results20, go_sem, *]) rfl ⟨rfl, (by repeat (first | with_reducible exact Below.refl _ _ | with_reducible assumption | with_reducible apply Ba | with_reducible apply Bd | with_reducible apply Bn | with_reducible apply Bg | (with_reducible refine Bs ?_ (by first | (simp; done) | (simp; omega)) _) | (with_reducible refine Bt ?_ (by assumption)) | (with_reducible refine Bt ?_ (Gr.below (by assumption)))))⟩
end
end Go.Proofs.YtklpemcchfmdjaaDoor
