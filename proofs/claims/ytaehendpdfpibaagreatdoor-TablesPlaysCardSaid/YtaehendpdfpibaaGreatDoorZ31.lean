import Derived.Test.YtaehendpdfpibaaGreatDoorZ30
import Derived.Test.YtaehendpdfpibaaGreatDoorZ29

/-
  One call on a store and its model: Add, Remove, Set (written by mkdo9.py).
-/
namespace Go.Proofs.YtaehendpdfpibaaGreatDoor
set_option linter.unusedSimpArgs false
set_option linter.unusedVariables false
open Go.RowKit Go.Sort Go.Lib Go.Shelf

section
variable {Z : Nat → Prop} {base ps pr : Nat} {w w' : World} {L : List En} {A : Nat → Addr}
set_option maxHeartbeats 8000000 in
set_option maxRecDepth 100000 in
theorem do_add (hTW : PairS Z base w ps pr L L) (hpr : base ≤ pr) (hW : ∀ W, RowKit.Below base w W → Errs W A ∧ Era base W A) (kd h1 h2 : Int) (rv : Value) (x1 x2 x3 : Int) (rl : List Vl) (hrv : ∀ W, RowKit.Below base w W → Sl encV W rv rl) (hrl : rl.length ≤ 30) (hx : HdOk (h1, h2)) (hkw : (Lit.int .i64 x1).wf = true) (hkd : kd = 3) :
    Calls Tryz.prog 12 #[psP ps, rsP pr, .agg #[.int .i64 kd, .int .i64 h1, .int .i64 h2, rv, .int .i64 x1, .int .i64 x2, .int .i64 x3]] w fun e w' => ∃ L', e = .returned (.bool true) ∧ PairS Z base w' ps pr L' L' ∧ BZ base Z w w' := by
  have bA := Ba (Below.refl _ w) (OpB8 kd h1 h2 rv x1 x2 x3)
  have hlo := hTW.lo
  have HG := Lib.hid hTW.good
  obtain ⟨hprl, hprz⟩ := hTW.pr_lt
  have HZL := Lib.hid hTW.zlt
  have hsz : (w.alloc (OpB8 kd h1 h2 rv x1 x2 x3)).heap.size = w.heap.size + 1 := by simp
  have P0 := Lib.hid (hTW.more (Z' := fun b => Z b ∨ b = w.heap.size) bA (fun b e => e.imp id (fun e => by rw [e, hsz]; omega)))
  have O0 := Lib.hid (heap_alloc_new w (OpB8 kd h1 h2 rv x1 x2 x3))
  have B0 := Lib.hid (show BZ base Z w (w.alloc (OpB8 kd h1 h2 rv x1 x2 x3)) from ⟨bA.mono hlo, fun b e hb => bA.block b hb⟩)
  have ZZ := Lib.hid (show ∀ b, OffZ base (fun b => Z b ∨ b = w.heap.size) b → base ≤ b ∧ ¬ Z b from fun b e => ⟨e.1, fun c => e.2 (.inl c)⟩)
  have HT := Lib.hid hTW
  have HW := Lib.hid hW
  have HRV := Lib.hid hrv
  obtain ⟨W, hWW⟩ : ∃ W, W = w.alloc (OpB8 kd h1 h2 rv x1 x2 x3) := ⟨_, rfl⟩
  rw [← hWW] at P0 O0 B0
  have hWb : base ≤ W.heap.size := by rw [hWW, hsz]; omega
  clear hTW hW hrv bA hsz
  obtain ⟨a0, a1, a2, a3, a4, a5, a6⟩ := seven_cells O0.out
  have hal := cell_lt a0
  subst hkd
  have BD := Lib.hid (B0.out.bel2 (Bd (Below.refl _ W)) hlo)
  have CP := Lib.hid ((P0.out.below (Bd (Below.refl _ W))).prog (P := fun e _ => e = .returned (errV A (addEN L (h1, h2) (x1, x2, x3)))) (L1' := addEL L (h1, h2) (x1, x2, x3)) (fun N hS _ => addS (hS) h1 h2 hx x1 x2 x3 (HW.out W.drew BD.out.bel).2))
  have htn := addEN_le L (h1, h2) (x1, x2, x3)
  have CF : Hid (∀ W1 L1, PairS (fun b => Z b ∨ b = w.heap.size) base W1 ps pr L1 L → Calls Tryz.prog 48 #[rsP pr, .agg #[.int .i64 h1, .int .i64 h2], .agg #[.int .i64 x1, .int .i64 x2, .int .i64 x3]] W1 fun e w' => e = .returned (.int .i64 (addEN L (h1, h2) (x1, x2, x3) : Nat)) ∧ PairS (fun b => Z b ∨ b = w.heap.size) base w' ps pr L1 (addEL L (h1, h2) (x1, x2, x3)) ∧ Tch (OffZ base (fun b => Z b ∨ b = w.heap.size)) W1 w') := fun W1 L1 h => h.ref hpr (P := fun e _ => e = .returned (.int .i64 (addEN L (h1, h2) (x1, x2, x3) : Nat))) (L2' := addEL L (h1, h2) (x1, x2, x3)) (fun M hR => raddS hR HG.out h1 h2 x1 x2 x3)
  generalize addEN L (h1, h2) (x1, x2, x3) = tn at *
  generalize addEL L (h1, h2) (x1, x2, x3) = L9 at *
  clear HG
  go_enter Tryz.func12, Tryz.ntmps12
  go_wp2_with fail
  rw [← hWW]
  clear hWW
  obtain ⟨s0, s1, s2, s3, s4, s5, s6⟩ := seven_cells (blk_below O0.out (Bd (Below.refl _ W)))
  have PD := Lib.hid (P0.out.below (Bd (Below.refl _ W)))
  refine wp_region_held_drew (S := fun w' => w'.cell? ⟨w.heap.size, 0, none⟩ = some (.int .i64 3) ∧ w'.cell? ⟨w.heap.size, 1, none⟩ = some (.int .i64 h1) ∧ w'.cell? ⟨w.heap.size, 2, none⟩ = some (.int .i64 h2) ∧ w'.cell? ⟨w.heap.size, 3, none⟩ = some rv ∧ w'.cell? ⟨w.heap.size, 4, none⟩ = some (.int .i64 x1) ∧ w'.cell? ⟨w.heap.size, 5, none⟩ = some (.int .i64 x2) ∧ w'.cell? ⟨w.heap.size, 6, none⟩ = some (.int .i64 x3)) (by kernel_rfl) ⟨s0, s1, s2, s3, s4, s5, s6⟩ (fun hHeld => ?_)
  (refine wpAnyH_take (i := 0) (v := ?_) rfl (by kernel_rfl) (by kernel_rfl) (by kernel_rfl) (fun _ _ _ h => h) (Or.inl ⟨by rfl, ?rt⟩) (by assumption) ?_; case rt => (intro w hSw; (try dsimp only at hSw); go_simp; (try with_reducible rfl))); (try simp only [Act.put, List.getElem_toArray, List.getElem_cons_succ, List.getElem_cons_zero, List.setIfInBounds_toArray, List.set_cons_zero, List.set_cons_succ])
  (refine wpAnyH_take (i := 1) (v := ?_) rfl (by kernel_rfl) (by kernel_rfl) (by kernel_rfl) (fun _ _ _ h => h) (Or.inl ⟨by rfl, ?rt⟩) (by assumption) ?_; case rt => (intro w hSw; (try dsimp only at hSw); go_simp; (try with_reducible rfl))); (try simp only [Act.put, List.getElem_toArray, List.getElem_cons_succ, List.getElem_cons_zero, List.setIfInBounds_toArray, List.set_cons_zero, List.set_cons_succ])
  (refine wpAnyH_take (i := 2) (v := ?_) rfl (by kernel_rfl) (by kernel_rfl) (by kernel_rfl) (fun _ _ _ h => h) (Or.inl ⟨by rfl, ?rt⟩) (by assumption) ?_; case rt => (intro w hSw; (try dsimp only at hSw); go_simp; (try with_reducible rfl))); (try simp only [Act.put, List.getElem_toArray, List.getElem_cons_succ, List.getElem_cons_zero, List.setIfInBounds_toArray, List.set_cons_zero, List.set_cons_succ])
  (refine wpAnyH_take (i := 3) (v := ?_) rfl (by kernel_rfl) (by kernel_rfl) (by kernel_rfl) (fun _ _ _ h => h) (Or.inl ⟨by rfl, ?rt⟩) (by assumption) ?_; case rt => (intro w hSw; (try dsimp only at hSw); go_simp; (try with_reducible rfl))); (try simp only [Act.put, List.getElem_toArray, List.getElem_cons_succ, List.getElem_cons_zero, List.setIfInBounds_toArray, List.set_cons_zero, List.set_cons_succ])
  (refine wpAnyH_take (i := 4) (v := ?_) rfl (by kernel_rfl) (by kernel_rfl) (by kernel_rfl) (fun _ _ _ h => h) (Or.inl ⟨by rfl, ?rt⟩) (by assumption) ?_; case rt => (intro w hSw; (try dsimp only at hSw); go_simp; (try with_reducible rfl))); (try simp only [Act.put, List.getElem_toArray, List.getElem_cons_succ, List.getElem_cons_zero, List.setIfInBounds_toArray, List.set_cons_zero, List.set_cons_succ])
  (refine wpAnyH_take (i := 7) (v := ?_) rfl (by kernel_rfl) (by kernel_rfl) (by kernel_rfl) (fun _ _ _ h => h) (Or.inl ⟨by rfl, ?rt⟩) (by assumption) ?_; case rt => (intro w hSw; (try dsimp only at hSw); go_simp; (try with_reducible rfl))); (try simp only [Act.put, List.getElem_toArray, List.getElem_cons_succ, List.getElem_cons_zero, List.setIfInBounds_toArray, List.set_cons_zero, List.set_cons_succ])
  (refine wpAnyH_take (i := 8) (v := ?_) rfl (by kernel_rfl) (by kernel_rfl) (by kernel_rfl) (fun _ _ _ h => h) (Or.inl ⟨by rfl, ?rt⟩) (by assumption) ?_; case rt => (intro w hSw; (try dsimp only at hSw); go_simp; (try with_reducible rfl))); (try simp only [Act.put, List.getElem_toArray, List.getElem_cons_succ, List.getElem_cons_zero, List.setIfInBounds_toArray, List.set_cons_zero, List.set_cons_succ])
  (refine wpAnyH_take (i := 9) (v := ?_) rfl (by kernel_rfl) (by kernel_rfl) (by kernel_rfl) (fun _ _ _ h => h) (Or.inl ⟨by rfl, ?rt⟩) (by assumption) ?_; case rt => (intro w hSw; (try dsimp only at hSw); go_simp; (try with_reducible rfl))); (try simp only [Act.put, List.getElem_toArray, List.getElem_cons_succ, List.getElem_cons_zero, List.setIfInBounds_toArray, List.set_cons_zero, List.set_cons_succ])
  (refine wpAnyH_take (i := 10) (v := ?_) rfl (by kernel_rfl) (by kernel_rfl) (by kernel_rfl) (fun _ _ _ h => h) (Or.inl ⟨by rfl, ?rt⟩) (by assumption) ?_; case rt => (intro w hSw; (try dsimp only at hSw); go_simp; (try with_reducible rfl))); (try simp only [Act.put, List.getElem_toArray, List.getElem_cons_succ, List.getElem_cons_zero, List.setIfInBounds_toArray, List.set_cons_zero, List.set_cons_succ])
  (refine wpAnyH_take (i := 11) (v := ?_) rfl (by kernel_rfl) (by kernel_rfl) (by kernel_rfl) (fun _ _ _ h => h) (Or.inl ⟨by rfl, ?rt⟩) (by assumption) ?_; case rt => (intro w hSw; (try dsimp only at hSw); go_simp; (try with_reducible rfl))); (try simp only [Act.put, List.getElem_toArray, List.getElem_cons_succ, List.getElem_cons_zero, List.setIfInBounds_toArray, List.set_cons_zero, List.set_cons_succ])
  refine wpAnyH_ready (rs := [5]) (by kernel_rfl) (by simp) ?_
  refine AllReadyH.cons rfl (fun K hK => ?_) AllReadyH.nil
  go_simp
  refine (CP.out).mono ?_
  rintro e w3 ⟨rfl, hP3, ht3⟩
  have P3 := Lib.hid hP3
  have B3 := Lib.hid (BD.out.step ht3 ZZ.out hlo)
  have O3 := Lib.hid (ht3.blk (blk_below O0.out (Bd (Below.refl _ W))) (fun e => e.2 (.inr rfl)))
  have CN := Lib.hid (numV_call (HW.out w3 B3.out.bel).1 tn htn)
  clear hP3 ht3
  refine hK.out _ _ (seven_cells O3.out) (fun hHeld => ?_)
  clear hK K hHeld
  have hHeld := seven_cells O3.out
  (try simp only [Act.put, List.getElem_toArray, List.getElem_cons_succ, List.getElem_cons_zero, List.setIfInBounds_toArray, List.set_cons_zero, List.set_cons_succ])
  refine wpAnyH_ready (rs := [6]) (by kernel_rfl) (by simp) ?_
  refine AllReadyH.cons rfl (fun K hK => ?_) AllReadyH.nil
  go_simp
  refine (CN.out).mono ?_
  rintro e w4 ⟨rfl, hb4⟩
  have P4 := Lib.hid (P3.out.below hb4)
  have B4 := Lib.hid (B3.out.bel2 hb4 hlo)
  have O4 := Lib.hid (blk_below O3.out hb4)
  have CF4 := Lib.hid (CF.out _ _ P4.out)
  clear hb4
  refine hK.out _ _ (seven_cells O4.out) (fun hHeld => ?_)
  clear hK K hHeld
  have hHeld := seven_cells O4.out
  (try simp only [Act.put, List.getElem_toArray, List.getElem_cons_succ, List.getElem_cons_zero, List.setIfInBounds_toArray, List.set_cons_zero, List.set_cons_succ])
  refine wpAnyH_ready (rs := [12]) (by kernel_rfl) (by simp) ?_
  refine AllReadyH.cons rfl (fun K hK => ?_) AllReadyH.nil
  go_simp
  refine (CF4.out).mono ?_
  rintro e w5 ⟨rfl, hP5, ht5⟩
  have P5 := Lib.hid hP5
  have B5 := Lib.hid (B4.out.step ht5 ZZ.out hlo)
  have O5 := Lib.hid (ht5.blk O4.out (fun e => e.2 (.inr rfl)))
  clear hP5 ht5
  refine hK.out _ _ (seven_cells O5.out) (fun hHeld => ?_)
  clear hK K hHeld
  have hHeld := seven_cells O5.out
  (try simp only [Act.put, List.getElem_toArray, List.getElem_cons_succ, List.getElem_cons_zero, List.setIfInBounds_toArray, List.set_cons_zero, List.set_cons_succ])
  (refine wpAnyH_take (i := 13) (v := ?_) rfl (by kernel_rfl) (by kernel_rfl) (by kernel_rfl) (fun _ _ _ h => h) (Or.inl ⟨by rfl, ?rt⟩) (by assumption) ?_; case rt => (intro w hSw; (try dsimp only at hSw); go_simp; (try with_reducible rfl))); (try simp only [Act.put, List.getElem_toArray, List.getElem_cons_succ, List.getElem_cons_zero, List.setIfInBounds_toArray, List.set_cons_zero, List.set_cons_succ])
  (refine wpAnyH_take (i := 14) (v := ?_) rfl (by kernel_rfl) (by kernel_rfl) (by kernel_rfl) (fun _ _ _ h => h) (Or.inl ⟨by rfl, ?rt⟩) (by assumption) ?_; case rt => (intro w hSw; (try dsimp only at hSw); go_simp; (try with_reducible rfl))); (try simp only [Act.put, List.getElem_toArray, List.getElem_cons_succ, List.getElem_cons_zero, List.setIfInBounds_toArray, List.set_cons_zero, List.set_cons_succ])
  refine wpAnyH_done (by kernel_rfl) ?_ _
  clear hHeld
  go_wp2
  go_ret
  exact ⟨L9, by simp, P5.out.less (fun b e => .inl e), B5.out⟩
set_option maxHeartbeats 8000000 in
set_option maxRecDepth 100000 in
theorem do_remove (hTW : PairS Z base w ps pr L L) (hpr : base ≤ pr) (hW : ∀ W, RowKit.Below base w W → Errs W A ∧ Era base W A) (kd h1 h2 : Int) (rv : Value) (x1 x2 x3 : Int) (rl : List Vl) (hrv : ∀ W, RowKit.Below base w W → Sl encV W rv rl) (hrl : rl.length ≤ 30) (hx : HdOk (h1, h2)) (hkw : (Lit.int .i64 x1).wf = true) (hkd : kd = 4) :
    Calls Tryz.prog 12 #[psP ps, rsP pr, .agg #[.int .i64 kd, .int .i64 h1, .int .i64 h2, rv, .int .i64 x1, .int .i64 x2, .int .i64 x3]] w fun e w' => ∃ L', e = .returned (.bool true) ∧ PairS Z base w' ps pr L' L' ∧ BZ base Z w w' := by
  have bA := Ba (Below.refl _ w) (OpB8 kd h1 h2 rv x1 x2 x3)
  have hlo := hTW.lo
  have HG := Lib.hid hTW.good
  obtain ⟨hprl, hprz⟩ := hTW.pr_lt
  have HZL := Lib.hid hTW.zlt
  have hsz : (w.alloc (OpB8 kd h1 h2 rv x1 x2 x3)).heap.size = w.heap.size + 1 := by simp
  have P0 := Lib.hid (hTW.more (Z' := fun b => Z b ∨ b = w.heap.size) bA (fun b e => e.imp id (fun e => by rw [e, hsz]; omega)))
  have O0 := Lib.hid (heap_alloc_new w (OpB8 kd h1 h2 rv x1 x2 x3))
  have B0 := Lib.hid (show BZ base Z w (w.alloc (OpB8 kd h1 h2 rv x1 x2 x3)) from ⟨bA.mono hlo, fun b e hb => bA.block b hb⟩)
  have ZZ := Lib.hid (show ∀ b, OffZ base (fun b => Z b ∨ b = w.heap.size) b → base ≤ b ∧ ¬ Z b from fun b e => ⟨e.1, fun c => e.2 (.inl c)⟩)
  have HT := Lib.hid hTW
  have HW := Lib.hid hW
  have HRV := Lib.hid hrv
  obtain ⟨W, hWW⟩ : ∃ W, W = w.alloc (OpB8 kd h1 h2 rv x1 x2 x3) := ⟨_, rfl⟩
  rw [← hWW] at P0 O0 B0
  have hWb : base ≤ W.heap.size := by rw [hWW, hsz]; omega
  clear hTW hW hrv bA hsz
  obtain ⟨a0, a1, a2, a3, a4, a5, a6⟩ := seven_cells O0.out
  have hal := cell_lt a0
  subst hkd
  have BD := Lib.hid (B0.out.bel2 (Bd (Below.refl _ W)) hlo)
  have CP := Lib.hid ((P0.out.below (Bd (Below.refl _ W))).prog (P := fun e _ => e = .returned (errV A (remEN L (h1, h2) x1))) (L1' := remEL L (h1, h2) x1) (fun N hS _ => remS (hS) h1 h2 hx x1 (HW.out W.drew BD.out.bel).2))
  have htn := remEN_le L (h1, h2) x1
  have CF : Hid (∀ W1 L1, PairS (fun b => Z b ∨ b = w.heap.size) base W1 ps pr L1 L → Calls Tryz.prog 50 #[rsP pr, .agg #[.int .i64 h1, .int .i64 h2], .int .i64 x1] W1 fun e w' => e = .returned (.int .i64 (remEN L (h1, h2) x1 : Nat)) ∧ PairS (fun b => Z b ∨ b = w.heap.size) base w' ps pr L1 (remEL L (h1, h2) x1) ∧ Tch (OffZ base (fun b => Z b ∨ b = w.heap.size)) W1 w') := fun W1 L1 h => h.ref hpr (P := fun e _ => e = .returned (.int .i64 (remEN L (h1, h2) x1 : Nat))) (L2' := remEL L (h1, h2) x1) (fun M hR => rremoveS hR HG.out h1 h2 x1)
  generalize remEN L (h1, h2) x1 = tn at *
  generalize remEL L (h1, h2) x1 = L9 at *
  clear HG
  go_enter Tryz.func12, Tryz.ntmps12
  go_wp2_with fail
  rw [← hWW]
  clear hWW
  obtain ⟨s0, s1, s2, s3, s4, s5, s6⟩ := seven_cells (blk_below O0.out (Bd (Below.refl _ W)))
  have PD := Lib.hid (P0.out.below (Bd (Below.refl _ W)))
  refine wp_region_held_drew (S := fun w' => w'.cell? ⟨w.heap.size, 0, none⟩ = some (.int .i64 4) ∧ w'.cell? ⟨w.heap.size, 1, none⟩ = some (.int .i64 h1) ∧ w'.cell? ⟨w.heap.size, 2, none⟩ = some (.int .i64 h2) ∧ w'.cell? ⟨w.heap.size, 3, none⟩ = some rv ∧ w'.cell? ⟨w.heap.size, 4, none⟩ = some (.int .i64 x1) ∧ w'.cell? ⟨w.heap.size, 5, none⟩ = some (.int .i64 x2) ∧ w'.cell? ⟨w.heap.size, 6, none⟩ = some (.int .i64 x3)) (by kernel_rfl) ⟨s0, s1, s2, s3, s4, s5, s6⟩ (fun hHeld => ?_)
  (refine wpAnyH_take (i := 0) (v := ?_) rfl (by kernel_rfl) (by kernel_rfl) (by kernel_rfl) (fun _ _ _ h => h) (Or.inl ⟨by rfl, ?rt⟩) (by assumption) ?_; case rt => (intro w hSw; (try dsimp only at hSw); go_simp; (try with_reducible rfl))); (try simp only [Act.put, List.getElem_toArray, List.getElem_cons_succ, List.getElem_cons_zero, List.setIfInBounds_toArray, List.set_cons_zero, List.set_cons_succ])
  (refine wpAnyH_take (i := 1) (v := ?_) rfl (by kernel_rfl) (by kernel_rfl) (by kernel_rfl) (fun _ _ _ h => h) (Or.inl ⟨by rfl, ?rt⟩) (by assumption) ?_; case rt => (intro w hSw; (try dsimp only at hSw); go_simp; (try with_reducible rfl))); (try simp only [Act.put, List.getElem_toArray, List.getElem_cons_succ, List.getElem_cons_zero, List.setIfInBounds_toArray, List.set_cons_zero, List.set_cons_succ])
  (refine wpAnyH_take (i := 2) (v := ?_) rfl (by kernel_rfl) (by kernel_rfl) (by kernel_rfl) (fun _ _ _ h => h) (Or.inl ⟨by rfl, ?rt⟩) (by assumption) ?_; case rt => (intro w hSw; (try dsimp only at hSw); go_simp; (try with_reducible rfl))); (try simp only [Act.put, List.getElem_toArray, List.getElem_cons_succ, List.getElem_cons_zero, List.setIfInBounds_toArray, List.set_cons_zero, List.set_cons_succ])
  (refine wpAnyH_take (i := 3) (v := ?_) rfl (by kernel_rfl) (by kernel_rfl) (by kernel_rfl) (fun _ _ _ h => h) (Or.inl ⟨by rfl, ?rt⟩) (by assumption) ?_; case rt => (intro w hSw; (try dsimp only at hSw); go_simp; (try with_reducible rfl))); (try simp only [Act.put, List.getElem_toArray, List.getElem_cons_succ, List.getElem_cons_zero, List.setIfInBounds_toArray, List.set_cons_zero, List.set_cons_succ])
  (refine wpAnyH_take (i := 4) (v := ?_) rfl (by kernel_rfl) (by kernel_rfl) (by kernel_rfl) (fun _ _ _ h => h) (Or.inl ⟨by rfl, ?rt⟩) (by assumption) ?_; case rt => (intro w hSw; (try dsimp only at hSw); go_simp; (try with_reducible rfl))); (try simp only [Act.put, List.getElem_toArray, List.getElem_cons_succ, List.getElem_cons_zero, List.setIfInBounds_toArray, List.set_cons_zero, List.set_cons_succ])
  (refine wpAnyH_take (i := 5) (v := ?_) rfl (by kernel_rfl) (by kernel_rfl) (by kernel_rfl) (fun _ _ _ h => h) (Or.inl ⟨by rfl, ?rt⟩) (by assumption) ?_; case rt => (intro w hSw; (try dsimp only at hSw); go_simp; (try with_reducible rfl))); (try simp only [Act.put, List.getElem_toArray, List.getElem_cons_succ, List.getElem_cons_zero, List.setIfInBounds_toArray, List.set_cons_zero, List.set_cons_succ])
  (refine wpAnyH_take (i := 8) (v := ?_) rfl (by kernel_rfl) (by kernel_rfl) (by kernel_rfl) (fun _ _ _ h => h) (Or.inl ⟨by rfl, ?rt⟩) (by assumption) ?_; case rt => (intro w hSw; (try dsimp only at hSw); go_simp; (try with_reducible rfl))); (try simp only [Act.put, List.getElem_toArray, List.getElem_cons_succ, List.getElem_cons_zero, List.setIfInBounds_toArray, List.set_cons_zero, List.set_cons_succ])
  (refine wpAnyH_take (i := 9) (v := ?_) rfl (by kernel_rfl) (by kernel_rfl) (by kernel_rfl) (fun _ _ _ h => h) (Or.inl ⟨by rfl, ?rt⟩) (by assumption) ?_; case rt => (intro w hSw; (try dsimp only at hSw); go_simp; (try with_reducible rfl))); (try simp only [Act.put, List.getElem_toArray, List.getElem_cons_succ, List.getElem_cons_zero, List.setIfInBounds_toArray, List.set_cons_zero, List.set_cons_succ])
  (refine wpAnyH_take (i := 10) (v := ?_) rfl (by kernel_rfl) (by kernel_rfl) (by kernel_rfl) (fun _ _ _ h => h) (Or.inl ⟨by rfl, ?rt⟩) (by assumption) ?_; case rt => (intro w hSw; (try dsimp only at hSw); go_simp; (try with_reducible rfl))); (try simp only [Act.put, List.getElem_toArray, List.getElem_cons_succ, List.getElem_cons_zero, List.setIfInBounds_toArray, List.set_cons_zero, List.set_cons_succ])
  (refine wpAnyH_take (i := 11) (v := ?_) rfl (by kernel_rfl) (by kernel_rfl) (by kernel_rfl) (fun _ _ _ h => h) (Or.inl ⟨by rfl, ?rt⟩) (by assumption) ?_; case rt => (intro w hSw; (try dsimp only at hSw); go_simp; (try with_reducible rfl))); (try simp only [Act.put, List.getElem_toArray, List.getElem_cons_succ, List.getElem_cons_zero, List.setIfInBounds_toArray, List.set_cons_zero, List.set_cons_succ])
  (refine wpAnyH_take (i := 12) (v := ?_) rfl (by kernel_rfl) (by kernel_rfl) (by kernel_rfl) (fun _ _ _ h => h) (Or.inl ⟨by rfl, ?rt⟩) (by assumption) ?_; case rt => (intro w hSw; (try dsimp only at hSw); go_simp; (try with_reducible rfl))); (try simp only [Act.put, List.getElem_toArray, List.getElem_cons_succ, List.getElem_cons_zero, List.setIfInBounds_toArray, List.set_cons_zero, List.set_cons_succ])
  (refine wpAnyH_take (i := 13) (v := ?_) rfl (by kernel_rfl) (by kernel_rfl) (by kernel_rfl) (fun _ _ _ h => h) (Or.inl ⟨by rfl, ?rt⟩) (by assumption) ?_; case rt => (intro w hSw; (try dsimp only at hSw); go_simp; (try with_reducible rfl))); (try simp only [Act.put, List.getElem_toArray, List.getElem_cons_succ, List.getElem_cons_zero, List.setIfInBounds_toArray, List.set_cons_zero, List.set_cons_succ])
  refine wpAnyH_ready (rs := [6]) (by kernel_rfl) (by simp) ?_
  refine AllReadyH.cons rfl (fun K hK => ?_) AllReadyH.nil
  go_simp
  refine (CP.out).mono ?_
  rintro e w3 ⟨rfl, hP3, ht3⟩
  have P3 := Lib.hid hP3
  have B3 := Lib.hid (BD.out.step ht3 ZZ.out hlo)
  have O3 := Lib.hid (ht3.blk (blk_below O0.out (Bd (Below.refl _ W))) (fun e => e.2 (.inr rfl)))
  have CN := Lib.hid (numV_call (HW.out w3 B3.out.bel).1 tn htn)
  clear hP3 ht3
  refine hK.out _ _ (seven_cells O3.out) (fun hHeld => ?_)
  clear hK K hHeld
  have hHeld := seven_cells O3.out
  (try simp only [Act.put, List.getElem_toArray, List.getElem_cons_succ, List.getElem_cons_zero, List.setIfInBounds_toArray, List.set_cons_zero, List.set_cons_succ])
  refine wpAnyH_ready (rs := [7]) (by kernel_rfl) (by simp) ?_
  refine AllReadyH.cons rfl (fun K hK => ?_) AllReadyH.nil
  go_simp
  refine (CN.out).mono ?_
  rintro e w4 ⟨rfl, hb4⟩
  have P4 := Lib.hid (P3.out.below hb4)
  have B4 := Lib.hid (B3.out.bel2 hb4 hlo)
  have O4 := Lib.hid (blk_below O3.out hb4)
  have CF4 := Lib.hid (CF.out _ _ P4.out)
  clear hb4
  refine hK.out _ _ (seven_cells O4.out) (fun hHeld => ?_)
  clear hK K hHeld
  have hHeld := seven_cells O4.out
  (try simp only [Act.put, List.getElem_toArray, List.getElem_cons_succ, List.getElem_cons_zero, List.setIfInBounds_toArray, List.set_cons_zero, List.set_cons_succ])
  refine wpAnyH_ready (rs := [14]) (by kernel_rfl) (by simp) ?_
  refine AllReadyH.cons rfl (fun K hK => ?_) AllReadyH.nil
  go_simp
  refine (CF4.out).mono ?_
  rintro e w5 ⟨rfl, hP5, ht5⟩
  have P5 := Lib.hid hP5
  have B5 := Lib.hid (B4.out.step ht5 ZZ.out hlo)
  have O5 := Lib.hid (ht5.blk O4.out (fun e => e.2 (.inr rfl)))
  clear hP5 ht5
  refine hK.out _ _ (seven_cells O5.out) (fun hHeld => ?_)
  clear hK K hHeld
  have hHeld := seven_cells O5.out
  (try simp only [Act.put, List.getElem_toArray, List.getElem_cons_succ, List.getElem_cons_zero, List.setIfInBounds_toArray, List.set_cons_zero, List.set_cons_succ])
  (refine wpAnyH_take (i := 15) (v := ?_) rfl (by kernel_rfl) (by kernel_rfl) (by kernel_rfl) (fun _ _ _ h => h) (Or.inl ⟨by rfl, ?rt⟩) (by assumption) ?_; case rt => (intro w hSw; (try dsimp only at hSw); go_simp; (try with_reducible rfl))); (try simp only [Act.put, List.getElem_toArray, List.getElem_cons_succ, List.getElem_cons_zero, List.setIfInBounds_toArray, List.set_cons_zero, List.set_cons_succ])
  (refine wpAnyH_take (i := 16) (v := ?_) rfl (by kernel_rfl) (by kernel_rfl) (by kernel_rfl) (fun _ _ _ h => h) (Or.inl ⟨by rfl, ?rt⟩) (by assumption) ?_; case rt => (intro w hSw; (try dsimp only at hSw); go_simp; (try with_reducible rfl))); (try simp only [Act.put, List.getElem_toArray, List.getElem_cons_succ, List.getElem_cons_zero, List.setIfInBounds_toArray, List.set_cons_zero, List.set_cons_succ])
  refine wpAnyH_done (by kernel_rfl) ?_ _
  clear hHeld
  go_wp2
  go_ret
  exact ⟨L9, by simp, P5.out.less (fun b e => .inl e), B5.out⟩
set_option maxHeartbeats 8000000 in
set_option maxRecDepth 100000 in
theorem do_set (hTW : PairS Z base w ps pr L L) (hpr : base ≤ pr) (hW : ∀ W, RowKit.Below base w W → Errs W A ∧ Era base W A) (kd h1 h2 : Int) (rv : Value) (x1 x2 x3 : Int) (rl : List Vl) (hrv : ∀ W, RowKit.Below base w W → Sl encV W rv rl) (hrl : rl.length ≤ 30) (hx : HdOk (h1, h2)) (hkw : (Lit.int .i64 x1).wf = true) (hkd : kd = 5) :
    Calls Tryz.prog 12 #[psP ps, rsP pr, .agg #[.int .i64 kd, .int .i64 h1, .int .i64 h2, rv, .int .i64 x1, .int .i64 x2, .int .i64 x3]] w fun e w' => ∃ L', e = .returned (.bool true) ∧ PairS Z base w' ps pr L' L' ∧ BZ base Z w w' := by
  have bA := Ba (Below.refl _ w) (OpB8 kd h1 h2 rv x1 x2 x3)
  have hlo := hTW.lo
  have HG := Lib.hid hTW.good
  obtain ⟨hprl, hprz⟩ := hTW.pr_lt
  have HZL := Lib.hid hTW.zlt
  have hsz : (w.alloc (OpB8 kd h1 h2 rv x1 x2 x3)).heap.size = w.heap.size + 1 := by simp
  have P0 := Lib.hid (hTW.more (Z' := fun b => Z b ∨ b = w.heap.size) bA (fun b e => e.imp id (fun e => by rw [e, hsz]; omega)))
  have O0 := Lib.hid (heap_alloc_new w (OpB8 kd h1 h2 rv x1 x2 x3))
  have B0 := Lib.hid (show BZ base Z w (w.alloc (OpB8 kd h1 h2 rv x1 x2 x3)) from ⟨bA.mono hlo, fun b e hb => bA.block b hb⟩)
  have ZZ := Lib.hid (show ∀ b, OffZ base (fun b => Z b ∨ b = w.heap.size) b → base ≤ b ∧ ¬ Z b from fun b e => ⟨e.1, fun c => e.2 (.inl c)⟩)
  have HT := Lib.hid hTW
  have HW := Lib.hid hW
  have HRV := Lib.hid hrv
  obtain ⟨W, hWW⟩ : ∃ W, W = w.alloc (OpB8 kd h1 h2 rv x1 x2 x3) := ⟨_, rfl⟩
  rw [← hWW] at P0 O0 B0
  have hWb : base ≤ W.heap.size := by rw [hWW, hsz]; omega
  clear hTW hW hrv bA hsz
  obtain ⟨a0, a1, a2, a3, a4, a5, a6⟩ := seven_cells O0.out
  have hal := cell_lt a0
  subst hkd
  have BD := Lib.hid (B0.out.bel2 (Bd (Below.refl _ W)) hlo)
  have CP := Lib.hid ((P0.out.below (Bd (Below.refl _ W))).prog (P := fun e _ => e = .returned (errV A (setEN L (h1, h2) (x1, x2, x3)))) (L1' := setEL L (h1, h2) (x1, x2, x3)) (fun N hS _ => setS (hS) h1 h2 hx x1 x2 x3 hkw (HW.out W.drew BD.out.bel).2))
  have htn := setEN_le L (h1, h2) (x1, x2, x3)
  have CF : Hid (∀ W1 L1, PairS (fun b => Z b ∨ b = w.heap.size) base W1 ps pr L1 L → Calls Tryz.prog 52 #[rsP pr, .agg #[.int .i64 h1, .int .i64 h2], .agg #[.int .i64 x1, .int .i64 x2, .int .i64 x3]] W1 fun e w' => e = .returned (.int .i64 (setEN L (h1, h2) (x1, x2, x3) : Nat)) ∧ PairS (fun b => Z b ∨ b = w.heap.size) base w' ps pr L1 (setEL L (h1, h2) (x1, x2, x3)) ∧ Tch (OffZ base (fun b => Z b ∨ b = w.heap.size)) W1 w') := fun W1 L1 h => h.ref hpr (P := fun e _ => e = .returned (.int .i64 (setEN L (h1, h2) (x1, x2, x3) : Nat))) (L2' := setEL L (h1, h2) (x1, x2, x3)) (fun M hR => rsetS hR HG.out h1 h2 x1 x2 x3)
  generalize setEN L (h1, h2) (x1, x2, x3) = tn at *
  generalize setEL L (h1, h2) (x1, x2, x3) = L9 at *
  clear HG
  go_enter Tryz.func12, Tryz.ntmps12
  go_wp2_with fail
  rw [← hWW]
  clear hWW
  obtain ⟨s0, s1, s2, s3, s4, s5, s6⟩ := seven_cells (blk_below O0.out (Bd (Below.refl _ W)))
  have PD := Lib.hid (P0.out.below (Bd (Below.refl _ W)))
  refine wp_region_held_drew (S := fun w' => w'.cell? ⟨w.heap.size, 0, none⟩ = some (.int .i64 5) ∧ w'.cell? ⟨w.heap.size, 1, none⟩ = some (.int .i64 h1) ∧ w'.cell? ⟨w.heap.size, 2, none⟩ = some (.int .i64 h2) ∧ w'.cell? ⟨w.heap.size, 3, none⟩ = some rv ∧ w'.cell? ⟨w.heap.size, 4, none⟩ = some (.int .i64 x1) ∧ w'.cell? ⟨w.heap.size, 5, none⟩ = some (.int .i64 x2) ∧ w'.cell? ⟨w.heap.size, 6, none⟩ = some (.int .i64 x3)) (by kernel_rfl) ⟨s0, s1, s2, s3, s4, s5, s6⟩ (fun hHeld => ?_)
  (refine wpAnyH_take (i := 0) (v := ?_) rfl (by kernel_rfl) (by kernel_rfl) (by kernel_rfl) (fun _ _ _ h => h) (Or.inl ⟨by rfl, ?rt⟩) (by assumption) ?_; case rt => (intro w hSw; (try dsimp only at hSw); go_simp; (try with_reducible rfl))); (try simp only [Act.put, List.getElem_toArray, List.getElem_cons_succ, List.getElem_cons_zero, List.setIfInBounds_toArray, List.set_cons_zero, List.set_cons_succ])
  (refine wpAnyH_take (i := 1) (v := ?_) rfl (by kernel_rfl) (by kernel_rfl) (by kernel_rfl) (fun _ _ _ h => h) (Or.inl ⟨by rfl, ?rt⟩) (by assumption) ?_; case rt => (intro w hSw; (try dsimp only at hSw); go_simp; (try with_reducible rfl))); (try simp only [Act.put, List.getElem_toArray, List.getElem_cons_succ, List.getElem_cons_zero, List.setIfInBounds_toArray, List.set_cons_zero, List.set_cons_succ])
  (refine wpAnyH_take (i := 2) (v := ?_) rfl (by kernel_rfl) (by kernel_rfl) (by kernel_rfl) (fun _ _ _ h => h) (Or.inl ⟨by rfl, ?rt⟩) (by assumption) ?_; case rt => (intro w hSw; (try dsimp only at hSw); go_simp; (try with_reducible rfl))); (try simp only [Act.put, List.getElem_toArray, List.getElem_cons_succ, List.getElem_cons_zero, List.setIfInBounds_toArray, List.set_cons_zero, List.set_cons_succ])
  (refine wpAnyH_take (i := 3) (v := ?_) rfl (by kernel_rfl) (by kernel_rfl) (by kernel_rfl) (fun _ _ _ h => h) (Or.inl ⟨by rfl, ?rt⟩) (by assumption) ?_; case rt => (intro w hSw; (try dsimp only at hSw); go_simp; (try with_reducible rfl))); (try simp only [Act.put, List.getElem_toArray, List.getElem_cons_succ, List.getElem_cons_zero, List.setIfInBounds_toArray, List.set_cons_zero, List.set_cons_succ])
  (refine wpAnyH_take (i := 4) (v := ?_) rfl (by kernel_rfl) (by kernel_rfl) (by kernel_rfl) (fun _ _ _ h => h) (Or.inl ⟨by rfl, ?rt⟩) (by assumption) ?_; case rt => (intro w hSw; (try dsimp only at hSw); go_simp; (try with_reducible rfl))); (try simp only [Act.put, List.getElem_toArray, List.getElem_cons_succ, List.getElem_cons_zero, List.setIfInBounds_toArray, List.set_cons_zero, List.set_cons_succ])
  (refine wpAnyH_take (i := 7) (v := ?_) rfl (by kernel_rfl) (by kernel_rfl) (by kernel_rfl) (fun _ _ _ h => h) (Or.inl ⟨by rfl, ?rt⟩) (by assumption) ?_; case rt => (intro w hSw; (try dsimp only at hSw); go_simp; (try with_reducible rfl))); (try simp only [Act.put, List.getElem_toArray, List.getElem_cons_succ, List.getElem_cons_zero, List.setIfInBounds_toArray, List.set_cons_zero, List.set_cons_succ])
  (refine wpAnyH_take (i := 8) (v := ?_) rfl (by kernel_rfl) (by kernel_rfl) (by kernel_rfl) (fun _ _ _ h => h) (Or.inl ⟨by rfl, ?rt⟩) (by assumption) ?_; case rt => (intro w hSw; (try dsimp only at hSw); go_simp; (try with_reducible rfl))); (try simp only [Act.put, List.getElem_toArray, List.getElem_cons_succ, List.getElem_cons_zero, List.setIfInBounds_toArray, List.set_cons_zero, List.set_cons_succ])
  (refine wpAnyH_take (i := 9) (v := ?_) rfl (by kernel_rfl) (by kernel_rfl) (by kernel_rfl) (fun _ _ _ h => h) (Or.inl ⟨by rfl, ?rt⟩) (by assumption) ?_; case rt => (intro w hSw; (try dsimp only at hSw); go_simp; (try with_reducible rfl))); (try simp only [Act.put, List.getElem_toArray, List.getElem_cons_succ, List.getElem_cons_zero, List.setIfInBounds_toArray, List.set_cons_zero, List.set_cons_succ])
  (refine wpAnyH_take (i := 10) (v := ?_) rfl (by kernel_rfl) (by kernel_rfl) (by kernel_rfl) (fun _ _ _ h => h) (Or.inl ⟨by rfl, ?rt⟩) (by assumption) ?_; case rt => (intro w hSw; (try dsimp only at hSw); go_simp; (try with_reducible rfl))); (try simp only [Act.put, List.getElem_toArray, List.getElem_cons_succ, List.getElem_cons_zero, List.setIfInBounds_toArray, List.set_cons_zero, List.set_cons_succ])
  (refine wpAnyH_take (i := 11) (v := ?_) rfl (by kernel_rfl) (by kernel_rfl) (by kernel_rfl) (fun _ _ _ h => h) (Or.inl ⟨by rfl, ?rt⟩) (by assumption) ?_; case rt => (intro w hSw; (try dsimp only at hSw); go_simp; (try with_reducible rfl))); (try simp only [Act.put, List.getElem_toArray, List.getElem_cons_succ, List.getElem_cons_zero, List.setIfInBounds_toArray, List.set_cons_zero, List.set_cons_succ])
  refine wpAnyH_ready (rs := [5]) (by kernel_rfl) (by simp) ?_
  refine AllReadyH.cons rfl (fun K hK => ?_) AllReadyH.nil
  go_simp
  refine (CP.out).mono ?_
  rintro e w3 ⟨rfl, hP3, ht3⟩
  have P3 := Lib.hid hP3
  have B3 := Lib.hid (BD.out.step ht3 ZZ.out hlo)
  have O3 := Lib.hid (ht3.blk (blk_below O0.out (Bd (Below.refl _ W))) (fun e => e.2 (.inr rfl)))
  have CN := Lib.hid (numV_call (HW.out w3 B3.out.bel).1 tn htn)
  clear hP3 ht3
  refine hK.out _ _ (seven_cells O3.out) (fun hHeld => ?_)
  clear hK K hHeld
  have hHeld := seven_cells O3.out
  (try simp only [Act.put, List.getElem_toArray, List.getElem_cons_succ, List.getElem_cons_zero, List.setIfInBounds_toArray, List.set_cons_zero, List.set_cons_succ])
  refine wpAnyH_ready (rs := [6]) (by kernel_rfl) (by simp) ?_
  refine AllReadyH.cons rfl (fun K hK => ?_) AllReadyH.nil
  go_simp
  refine (CN.out).mono ?_
  rintro e w4 ⟨rfl, hb4⟩
  have P4 := Lib.hid (P3.out.below hb4)
  have B4 := Lib.hid (B3.out.bel2 hb4 hlo)
  have O4 := Lib.hid (blk_below O3.out hb4)
  have CF4 := Lib.hid (CF.out _ _ P4.out)
  clear hb4
  refine hK.out _ _ (seven_cells O4.out) (fun hHeld => ?_)
  clear hK K hHeld
  have hHeld := seven_cells O4.out
  (try simp only [Act.put, List.getElem_toArray, List.getElem_cons_succ, List.getElem_cons_zero, List.setIfInBounds_toArray, List.set_cons_zero, List.set_cons_succ])
  refine wpAnyH_ready (rs := [12]) (by kernel_rfl) (by simp) ?_
  refine AllReadyH.cons rfl (fun K hK => ?_) AllReadyH.nil
  go_simp
  refine (CF4.out).mono ?_
  rintro e w5 ⟨rfl, hP5, ht5⟩
  have P5 := Lib.hid hP5
  have B5 := Lib.hid (B4.out.step ht5 ZZ.out hlo)
  have O5 := Lib.hid (ht5.blk O4.out (fun e => e.2 (.inr rfl)))
  clear hP5 ht5
  refine hK.out _ _ (seven_cells O5.out) (fun hHeld => ?_)
  clear hK K hHeld
  have hHeld := seven_cells O5.out
  (try simp only [Act.put, List.getElem_toArray, List.getElem_cons_succ, List.getElem_cons_zero, List.setIfInBounds_toArray, List.set_cons_zero, List.set_cons_succ])
  (refine wpAnyH_take (i := 13) (v := ?_) rfl (by kernel_rfl) (by kernel_rfl) (by kernel_rfl) (fun _ _ _ h => h) (Or.inl ⟨by rfl, ?rt⟩) (by assumption) ?_; case rt => (intro w hSw; (try dsimp only at hSw); go_simp; (try with_reducible rfl))); (try simp only [Act.put, List.getElem_toArray, List.getElem_cons_succ, List.getElem_cons_zero, List.setIfInBounds_toArray, List.set_cons_zero, List.set_cons_succ])
  (refine wpAnyH_take (i := 14) (v := ?_) rfl (by kernel_rfl) (by kernel_rfl) (by kernel_rfl) (fun _ _ _ h => h) (Or.inl ⟨by rfl, ?rt⟩) (by assumption) ?_; case rt => (intro w hSw; (try dsimp only at hSw); go_simp; (try with_reducible rfl))); (try simp only [Act.put, List.getElem_toArray, List.getElem_cons_succ, List.getElem_cons_zero, List.setIfInBounds_toArray, List.set_cons_zero, List.set_cons_succ])
  refine wpAnyH_done (by kernel_rfl) ?_ _
  clear hHeld
  go_wp2
  go_ret
  exact ⟨L9, by simp, P5.out.less (fun b e => .inl e), B5.out⟩
end
end Go.Proofs.YtaehendpdfpibaaGreatDoor
