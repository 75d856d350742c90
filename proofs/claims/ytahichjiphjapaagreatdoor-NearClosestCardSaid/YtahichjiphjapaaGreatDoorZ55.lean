import Derived.Test.YtahichjiphjapaaGreatDoorZ35
import Derived.Test.YtahichjiphjapaaGreatDoorZ54
import Derived.Test.YtahichjiphjapaaGreatDoorZ51
import Derived.Test.YtahichjiphjapaaGreatDoorZ31
import Derived.Test.YtahichjiphjapaaGreatDoorZ47
import Derived.Test.YtahichjiphjapaaGreatDoorZ4

/-
  Package quad: a handle's box asked for (the great door alone has it).
-/
namespace Go.Proofs.YtahichjiphjapaaGreatDoor
set_option linter.unusedSimpArgs false
set_option linter.unusedVariables false
open Go.RowKit Go.Sort Go.Lib Go.Shelf Go.Maps

section
variable {w : World} {M : Nat → Prop} {pt : Nat} {B : List Bxd}
set_option maxHeartbeats 1000000 in
set_option maxRecDepth 100000 in
theorem boxT_call (hp : TrAt w M pt B) (x y : Int) (hx : HdOk (x, y)) :
    Calls Tryz.prog 38 #[.pointer (some ⟨pt, 0, none⟩), .agg #[.int .i64 x, .int .i64 y]] w fun e w' => e = .returned (.tuple #[bxV ((boxF B (x, y)).getD (0, 0, 0, 0)), .bool (boxF B (x, y)).isSome]) ∧ RowKit.Below w.heap.size w w' := by
  obtain ⟨mb, R, rv, q, hI⟩ := hp
  have hpl := cell_lt hI.cells.1
  obtain ⟨a, b, c, d, hq⟩ : ∃ a b c d, (boxF B (x, y)).getD (0, 0, 0, 0) = (a, b, c, d) := ⟨_, _, _, _, rfl⟩
  obtain ⟨ok, hok⟩ : ∃ ok, ok = (boxF B (x, y)).isSome := ⟨_, rfl⟩
  obtain ⟨W0, hW0⟩ : ∃ W0, W0 = (w.alloc (.cells #[.int .i64 x, .int .i64 y] 42)).alloc (.cells #[.int .i64 0, .int .i64 0, .int .i64 0, .int .i64 0] 45) := ⟨_, rfl⟩
  have hs0 : W0.heap.size = w.heap.size + 2 := by rw [hW0]; simp
  have B0 : RowKit.Below w.heap.size w W0 := by rw [hW0]; exact Ba (Ba (Below.refl _ w) _) _
  obtain ⟨k1, k2⟩ := three_blk (w := w) (o1 := .cells #[.int .i64 x, .int .i64 y] 42) (o2 := .cells #[.int .i64 0, .int .i64 0, .int .i64 0, .int .i64 0] 45) (w3 := W0) (by rw [hW0]; exact Below.refl _ _)
  have hS : ∀ W, RowKit.Below W0.heap.size W0 W → (W.cell? ⟨w.heap.size, 0, none⟩ = some (.int .i64 x) ∧ W.cell? ⟨w.heap.size, 1, none⟩ = some (.int .i64 y)) ∧ W.cell? ⟨pt, 0, none⟩ = some (.map (some mb)) ∧ (Instr.lookup MapBT (.map (some mb)) (.agg #[.int .i64 x, .int .i64 y]) true).run Tryz.prog W = .ok (.tuple #[.agg #[.int .i64 a, .int .i64 b, .int .i64 c, .int .i64 d], .bool ok]) W := by
    intro W hW
    have k1 := blk_below k1 hW
    have bW : RowKit.Below w.heap.size w W := B0.trans (hW.mono B0.size)
    have h2 := (hI.map.below bW).look2 mptB (x, y) hx
    rw [hq, ← hok] at h2
    exact ⟨⟨by rw [blk_cell k1]; rfl, by rw [blk_cell k1]; rfl⟩, Bc bW hpl hI.cells.1, h2⟩
  rw [hq, ← hok]
  have K2 := Lib.hid k2
  have HB0 := Lib.hid B0
  clear hI hx hq hok k1 k2 B0
  go_enter Tryz.func38, Tryz.ntmps38
  go_wp2_with fail
  rw [← hW0]
  clear hW0
  refine wp_region_held_drew (S := fun W => (W.cell? ⟨w.heap.size, 0, none⟩ = some (.int .i64 x) ∧ W.cell? ⟨w.heap.size, 1, none⟩ = some (.int .i64 y)) ∧ W.cell? ⟨pt, 0, none⟩ = some (.map (some mb)) ∧ (Instr.lookup MapBT (.map (some mb)) (.agg #[.int .i64 x, .int .i64 y]) true).run Tryz.prog W = .ok (.tuple #[.agg #[.int .i64 a, .int .i64 b, .int .i64 c, .int .i64 d], .bool ok]) W) (by kernel_rfl) (hS _ (by repeat (first | with_reducible exact Below.refl _ _ | with_reducible assumption | with_reducible apply Ba | with_reducible apply Bd | with_reducible apply Bn | with_reducible apply Bg | (with_reducible refine Bs ?_ (by first | (simp; done) | (simp; omega)) _) | (with_reducible refine Bt ?_ (by assumption)) | (with_reducible refine Bt ?_ (Gr.below (by assumption)))))) (fun hHeld => ?_)
  (refine wpAnyH_take (i := 0) (v := ?_) rfl (by kernel_rfl) (by kernel_rfl) (by kernel_rfl) (fun _ _ _ h => h) (Or.inl ⟨by rfl, ?rt⟩) (by assumption) ?_; case rt => (intro w hSw; (try dsimp only at hSw); go_simp; (try with_reducible rfl))); (try simp only [Act.put, List.getElem_toArray, List.getElem_cons_succ, List.getElem_cons_zero, List.setIfInBounds_toArray, List.set_cons_zero, List.set_cons_succ])
  (refine wpAnyH_take (i := 1) (v := ?_) rfl (by kernel_rfl) (by kernel_rfl) (by kernel_rfl) (fun _ _ _ h => h) (Or.inl ⟨by rfl, ?rt⟩) (by assumption) ?_; case rt => (intro w hSw; (try dsimp only at hSw); go_simp; (try with_reducible rfl))); (try simp only [Act.put, List.getElem_toArray, List.getElem_cons_succ, List.getElem_cons_zero, List.setIfInBounds_toArray, List.set_cons_zero, List.set_cons_succ])
  (refine wpAnyH_take (i := 2) (v := ?_) rfl (by kernel_rfl) (by kernel_rfl) (by kernel_rfl) (fun _ _ _ h => h) (Or.inl ⟨by rfl, ?rt⟩) (by assumption) ?_; case rt => (intro w hSw; (try dsimp only at hSw); go_simp; (try with_reducible rfl))); (try simp only [Act.put, List.getElem_toArray, List.getElem_cons_succ, List.getElem_cons_zero, List.setIfInBounds_toArray, List.set_cons_zero, List.set_cons_succ])
  (refine wpAnyH_take (i := 3) (v := ?_) rfl (by kernel_rfl) (by kernel_rfl) (by kernel_rfl) (fun _ _ _ h => h) (Or.inl ⟨by rfl, ?rt⟩) (by assumption) ?_; case rt => (intro w hSw; (try dsimp only at hSw); go_simp; (try with_reducible rfl))); (try simp only [Act.put, List.getElem_toArray, List.getElem_cons_succ, List.getElem_cons_zero, List.setIfInBounds_toArray, List.set_cons_zero, List.set_cons_succ])
  (refine wpAnyH_take (i := 4) (v := ?_) rfl (by kernel_rfl) (by kernel_rfl) (by kernel_rfl) (fun _ _ _ h => h) (Or.inl ⟨by rfl, ?rt⟩) (by assumption) ?_; case rt => (intro w hSw; (try dsimp only at hSw); go_simp; (try with_reducible rfl))); (try simp only [Act.put, List.getElem_toArray, List.getElem_cons_succ, List.getElem_cons_zero, List.setIfInBounds_toArray, List.set_cons_zero, List.set_cons_succ])
  (refine wpAnyH_take (i := 5) (v := ?_) rfl (by kernel_rfl) (by kernel_rfl) (by kernel_rfl) (fun _ _ _ h => h) (Or.inl ⟨by rfl, ?rt⟩) (by assumption) ?_; case rt => (intro w hSw; (try dsimp only at hSw); go_simp; (try with_reducible rfl))); (try simp only [Act.put, List.getElem_toArray, List.getElem_cons_succ, List.getElem_cons_zero, List.setIfInBounds_toArray, List.set_cons_zero, List.set_cons_succ])
  (refine wpAnyH_take (i := 6) (v := ?_) rfl (by kernel_rfl) (by kernel_rfl) (by kernel_rfl) (fun _ _ _ h => h) (Or.inl ⟨by rfl, ?rt⟩) (by assumption) ?_; case rt => (intro w hSw; (try dsimp only at hSw); go_simp; (try with_reducible rfl))); (try simp only [Act.put, List.getElem_toArray, List.getElem_cons_succ, List.getElem_cons_zero, List.setIfInBounds_toArray, List.set_cons_zero, List.set_cons_succ])
  (refine wpAnyH_take (i := 7) (v := ?_) rfl (by kernel_rfl) (by kernel_rfl) (by kernel_rfl) (fun _ _ _ h => h) (Or.inl ⟨by rfl, ?rt⟩) (by assumption) ?_; case rt => (intro w hSw; (try dsimp only at hSw); go_simp; (try with_reducible rfl))); (try simp only [Act.put, List.getElem_toArray, List.getElem_cons_succ, List.getElem_cons_zero, List.setIfInBounds_toArray, List.set_cons_zero, List.set_cons_succ])
  (refine wpAnyH_take (i := 8) (v := ?_) rfl (by kernel_rfl) (by kernel_rfl) (by kernel_rfl) (fun _ _ _ h => h) (Or.inl ⟨by rfl, ?rt⟩) (by assumption) ?_; case rt => (intro w hSw; (try dsimp only at hSw); go_simp; (try with_reducible rfl))); (try simp only [Act.put, List.getElem_toArray, List.getElem_cons_succ, List.getElem_cons_zero, List.setIfInBounds_toArray, List.set_cons_zero, List.set_cons_succ])
  refine wpAnyH_ready (rs := [9]) (by kernel_rfl) (by simp) ?_
  refine AllReadyH.cons rfl (fun K hK => ?_) AllReadyH.nil
  go_simp
  refine hK.out _ _ (hS _ (by repeat (first | with_reducible exact Below.refl _ _ | with_reducible assumption | with_reducible apply Ba | with_reducible apply Bd | with_reducible apply Bn | with_reducible apply Bg | (with_reducible refine Bs ?_ (by first | (simp; done) | (simp; omega)) _) | (with_reducible refine Bt ?_ (by assumption)) | (with_reducible refine Bt ?_ (Gr.below (by assumption)))))) (fun hHeld => ?_); clear hK K; (try simp only [Act.put, List.getElem_toArray, List.getElem_cons_succ, List.getElem_cons_zero, List.setIfInBounds_toArray, List.set_cons_zero, List.set_cons_succ])
  refine wpAnyH_ready (rs := [10]) (by kernel_rfl) (by simp) ?_
  refine AllReadyH.cons rfl (fun K hK => ?_) AllReadyH.nil
  go_simp
  refine hK.out _ _ (hS _ (by repeat (first | with_reducible exact Below.refl _ _ | with_reducible assumption | with_reducible apply Ba | with_reducible apply Bd | with_reducible apply Bn | with_reducible apply Bg | (with_reducible refine Bs ?_ (by first | (simp; done) | (simp; omega)) _) | (with_reducible refine Bt ?_ (by assumption)) | (with_reducible refine Bt ?_ (Gr.below (by assumption)))))) (fun hHeld => ?_); clear hK K; (try simp only [Act.put, List.getElem_toArray, List.getElem_cons_succ, List.getElem_cons_zero, List.setIfInBounds_toArray, List.set_cons_zero, List.set_cons_succ])
  (refine wpAnyH_take (i := 11) (v := ?_) rfl (by kernel_rfl) (by kernel_rfl) (by kernel_rfl) (fun _ _ _ h => h) (Or.inl ⟨by rfl, ?rt⟩) (by assumption) ?_; case rt => (intro w hSw; (try dsimp only at hSw); go_simp; (try with_reducible rfl))); (try simp only [Act.put, List.getElem_toArray, List.getElem_cons_succ, List.getElem_cons_zero, List.setIfInBounds_toArray, List.set_cons_zero, List.set_cons_succ])
  refine wpAnyH_done (by kernel_rfl) ?_ _
  clear hS hHeld
  obtain ⟨W1, hW1⟩ : ∃ W1, W1 = (W0.alloc (.cells #[.int .i64 a, .int .i64 b, .int .i64 c, .int .i64 d] 45)).drew := ⟨_, rfl⟩
  have B1 : RowKit.Below W0.heap.size W0 W1 := by rw [hW1]; exact Bd (Ba (Below.refl _ _) _)
  have k3 : W1.heap[w.heap.size + 2]? = some (.cells #[.int .i64 a, .int .i64 b, .int .i64 c, .int .i64 d] 45 (0, 0)) := by
    have h := heap_alloc_new W0 (.cells #[.int .i64 a, .int .i64 b, .int .i64 c, .int .i64 d] 45)
    rw [hs0] at h
    rw [hW1]
    exact h
  have k4 := blk_below K2.out B1
  have B2 := Lib.hid (HB0.out.trans (B1.mono HB0.out.size))
  rw [← hW1]
  obtain ⟨t1, t2, t3, t4⟩ := cells4 k3
  obtain ⟨z1, z2, z3, z4⟩ := cells4 k4
  have f1 : W1.frozen? ⟨w.heap.size + 1, 0, none⟩ = false := by simp [World.frozen?, k4]
  have f2 : W1.frozen? ⟨w.heap.size + 1, 1, none⟩ = false := by simp [World.frozen?, k4]
  have f3 : W1.frozen? ⟨w.heap.size + 1, 2, none⟩ = false := by simp [World.frozen?, k4]
  have f4 : W1.frozen? ⟨w.heap.size + 1, 3, none⟩ = false := by simp [World.frozen?, k4]
  have hl1 := cell_lt z1
  have hl2 := cell_lt t1
  have hb01 : w.heap.size ≤ w.heap.size + 1 := by omega
  clear hW1 B1 k3 k4 hs0 K2 HB0
  go_wp2
  unfold bxV
  exact bodyPost_ret (v := .tuple #[.agg #[.int .i64 a, .int .i64 b, .int .i64 c, .int .i64 d], .bool ok]) (by simp [results, Tryz.results38, go_sem, *]) rfl ⟨rfl, Bs (Bs (Bs (Bs B2.out hb01 _) hb01 _) hb01 _) hb01 _⟩
end
end Go.Proofs.YtahichjiphjapaaGreatDoor

/-
  Package near: Radius, Nearest, Closest.
-/
namespace Go.Proofs.YtahichjiphjapaaGreatDoor
set_option linter.unusedSimpArgs false
set_option linter.unusedVariables false
open Go.RowKit Go.Sort Go.Lib Go.Shelf

section
variable {w : World} {M : Nat → Prop} {pt : Nat} {B : List Bxd} {eR eN eF : TypeId × Value}
theorem TrAt.onceB (hp : TrAt w M pt B) : OnceB B := by
  obtain ⟨mb, R, rv, q, h⟩ := hp
  exact h.once
theorem rad1_call (x y : Int) (W : World) : Calls Tryz.prog 28 #[.agg #[.int .i64 x, .int .i64 y]] W fun e w' => e = .returned (.bool true) ∧ RowKit.Below W.heap.size W w' := by
  go_enter Tryz.func28, Tryz.ntmps28
  go_wp2
  go_ret
  exact ⟨rfl, (by repeat (first | with_reducible exact Below.refl _ _ | with_reducible assumption | with_reducible apply Ba | with_reducible apply Bd | with_reducible apply Bn | with_reducible apply Bg | (with_reducible refine Bs ?_ (by first | (simp; done) | (simp; omega)) _) | (with_reducible refine Bt ?_ (by assumption)) | (with_reducible refine Bt ?_ (Gr.below (by assumption)))))⟩
theorem rad1_cnt (w : World) : CntF w 28 #[] (fun _ => true) :=
  ⟨enters_of Tryz.func28 (by kernel_rfl) rfl, fun x y W _ => rad1_call x y W⟩
theorem near1_call (x y : Int) (W : World) : Calls Tryz.prog 36 #[.agg #[.int .i64 x, .int .i64 y]] W fun e w' => e = .returned (.bool true) ∧ RowKit.Below W.heap.size W w' := by
  go_enter Tryz.func36, Tryz.ntmps36
  go_wp2
  go_ret
  exact ⟨rfl, (by repeat (first | with_reducible exact Below.refl _ _ | with_reducible assumption | with_reducible apply Ba | with_reducible apply Bd | with_reducible apply Bn | with_reducible apply Bg | (with_reducible refine Bs ?_ (by first | (simp; done) | (simp; omega)) _) | (with_reducible refine Bt ?_ (by assumption)) | (with_reducible refine Bt ?_ (Gr.below (by assumption)))))⟩
theorem near1_cnt (w : World) : CntF w 36 #[] (fun _ => true) :=
  ⟨enters_of Tryz.func36 (by kernel_rfl) rfl, fun x y W _ => near1_call x y W⟩
set_option maxHeartbeats 1000000 in
set_option maxRecDepth 100000 in
theorem nRadius_noV (x y r : Int) (h : (placeB (x, y) && okRad r) = false) (hE : Er3 w eR eN eF) (v0 : Value) :
    Calls Tryz.prog 12 #[v0, .agg #[.int .i64 x, .int .i64 y], .int .i64 r] w fun e w' => ∃ v', e = .returned (.tuple #[v', .iface eR.1 eR.2]) ∧ Sl encH w' v' [] ∧ RowKit.Below w.heap.size w w' := by
  have RC := Lib.hid (fun W => nright_call x y W)
  have hg := hE.eR
  have hgl := cell_lt hg
  clear hE
  cases hP : placeB (x, y)
  case' true =>
    have hr : okRad r = false := by simpa [hP] using h
    clear h
    unfold okRad at hr
    by_cases h1 : r < 0
    case' neg => have h2 : r > 4194304 := by simp at hr; omega
  all_goals
    rw [hP] at RC
    (try clear h)
    (try clear hr)
    clear hP
    go_enter Tryz.func12, Tryz.ntmps12
    go_wp2_with fail
    refine (RC.out _).mono ?_
    rintro e w1 ⟨rfl, hb1⟩
    have b1 := Bt (Ba (Below.refl _ w) (.cells #[.int .i64 x, .int .i64 y] 24)) hb1
    have hg1 := Bc b1 hgl hg
    have hgl1 := Bl b1 hgl
    have B1 := Lib.hid b1
    clear hb1 b1 hg hgl RC
    go_wp2
    go_region
    go_wp2
    go_ret2
    exact ⟨_, rfl, Sl.nil none 0 (by unfold maxLen; omega), (by have := B1.out; exact (by repeat (first | with_reducible exact Below.refl _ _ | with_reducible assumption | with_reducible apply Ba | with_reducible apply Bd | with_reducible apply Bn | with_reducible apply Bg | (with_reducible refine Bs ?_ (by first | (simp; done) | (simp; omega)) _) | (with_reducible refine Bt ?_ (by assumption)) | (with_reducible refine Bt ?_ (Gr.below (by assumption))))))⟩
set_option maxHeartbeats 1000000 in
set_option maxRecDepth 100000 in
theorem nRadius_do (x y r : Int) (hp : TrAt w M pt B) (h : (placeB (x, y) && okRad r) = true) (hl : B.length ≤ 100) :
    Calls Tryz.prog 12 #[.pointer (some ⟨pt, 0, none⟩), .agg #[.int .i64 x, .int .i64 y], .int .i64 r] w fun e w' => ∃ v', e = .returned (.tuple #[v', .nilIface]) ∧ Sl encH w' v' (radL B (x, y) r) ∧ RowKit.Below w.heap.size w w' := by
  have RC := Lib.hid (fun W => nright_call x y W)
  obtain ⟨hP, hr⟩ := Bool.and_eq_true_iff.1 h
  simp only [okRad, Bool.and_eq_true, decide_eq_true_eq] at hr
  obtain ⟨r0, r1⟩ := hr
  have WC := Lib.hid (fun W (hW : RowKit.Below w.heap.size w W) => within_call ((fr_tr pt B).below hp hW) (by omega) (rad1_cnt W) (place_reach hP) r0 (show r ≤ 8388608 by omega))
  have HR := Lib.hid (fun (l : List Bxd) (h2 : ∀ b, b ∈ l ↔ b ∈ B ∧ seenB (entN (x, y) r) b.2 = true) => hit_rad h2 hp.okB)
  rw [hP] at RC
  have hr0 : ¬ r < 0 := by omega
  have hr1 : ¬ r > 4194304 := by omega
  obtain ⟨T, hT⟩ : ∃ T, T = radL B (x, y) r := ⟨_, rfl⟩
  rw [← hT]
  rw [← hT] at HR
  have hx0 := heap_alloc_new w (.cells #[.int .i64 x, .int .i64 y] 24)
  clear h hP hp hT r0 r1
  go_enter Tryz.func12, Tryz.ntmps12
  go_wp2_with fail
  refine (RC.out _).mono ?_
  rintro e w1 ⟨rfl, hb1⟩
  have B1 := Lib.hid (Bt (Ba (Below.refl _ w) (.cells #[.int .i64 x, .int .i64 y] 24)) hb1)
  obtain ⟨x1, x2, _, _⟩ := two_cells (blk_below hx0 hb1)
  have hxl := cell_lt x1
  have W1 := Lib.hid (WC.out w1 B1.out)
  clear hb1 hx0 WC RC
  go_wp2_with fail
  refine W1.out.mono ?_
  rintro e w2 ⟨v2, l, rfl, h1, h2, h3, h4⟩
  have hlen : (hitL (x, y) r (fun _ => true) l).length ≤ 100 := by
    have g1 := hitL_len (x, y) r (fun _ => true) l
    have g2 := nodup_sub_len h1.nodup fun z hz => ((h2 z).1 hz).1
    omega
  have E2 := Lib.hid (HR.out l h2)
  have NH := Lib.hid (nhandles_call _ v2 w2 (row_sl lenF h3 rfl) (by omega))
  have B2 := Lib.hid (Bt B1.out h4)
  clear h1 h2 h3 h4 W1 HR
  go_wp2_with fail
  refine NH.out.mono ?_
  rintro e w3 ⟨v3, rfl, hs3, hb3⟩
  have HH := Lib.hid (handles_call _ v3 w3 hs3 (by rw [List.length_map]; omega))
  rw [E2.out] at HH
  have B3 := Lib.hid (Bt B2.out hb3)
  clear hs3 hb3 NH
  go_wp2_with fail
  refine HH.out.mono ?_
  rintro e w4 ⟨v4, rfl, ho4, hb4⟩
  have S4 := Lib.hid (ho4.sl lenH)
  have B4 := Lib.hid (Bt B3.out hb4)
  clear ho4 hb4 HH
  go_wp2
  go_ret2
  exact ⟨_, rfl, S4.out, B4.out⟩
set_option maxHeartbeats 1000000 in
set_option maxRecDepth 100000 in
theorem nNearest_noV (x y k : Int) (h : (placeB (x, y) && decide (0 ≤ k)) = false) (hE : Er3 w eR eN eF) (v0 : Value) :
    Calls Tryz.prog 17 #[v0, .agg #[.int .i64 x, .int .i64 y], .int .i64 k] w fun e w' => ∃ v', e = .returned (.tuple #[v', .iface eR.1 eR.2]) ∧ Sl encH w' v' [] ∧ RowKit.Below w.heap.size w w' := by
  have RC := Lib.hid (fun W => nright_call x y W)
  have hg := hE.eR
  have hgl := cell_lt hg
  clear hE
  cases hP : placeB (x, y)
  case' true => have h1 : k < 0 := by simp [hP] at h; omega
  all_goals
    rw [hP] at RC
    clear h hP
    go_enter Tryz.func17, Tryz.ntmps17
    go_wp2_with fail
    refine (RC.out _).mono ?_
    rintro e w1 ⟨rfl, hb1⟩
    have b1 := Bt (Ba (Below.refl _ w) (.cells #[.int .i64 x, .int .i64 y] 24)) hb1
    have hg1 := Bc b1 hgl hg
    have hgl1 := Bl b1 hgl
    have B1 := Lib.hid b1
    clear hb1 b1 hg hgl RC
    go_wp2
    go_region
    go_wp2
    go_ret2
    exact ⟨_, rfl, Sl.nil none 0 (by unfold maxLen; omega), (by have := B1.out; exact (by repeat (first | with_reducible exact Below.refl _ _ | with_reducible assumption | with_reducible apply Ba | with_reducible apply Bd | with_reducible apply Bn | with_reducible apply Bg | (with_reducible refine Bs ?_ (by first | (simp; done) | (simp; omega)) _) | (with_reducible refine Bt ?_ (by assumption)) | (with_reducible refine Bt ?_ (Gr.below (by assumption))))))⟩
set_option maxHeartbeats 1000000 in
set_option maxRecDepth 100000 in
theorem nNearest_do (x y k : Int) (hp : TrAt w M pt B) (h : (placeB (x, y) && decide (0 ≤ k)) = true) (hl : B.length ≤ 100) :
    Calls Tryz.prog 17 #[.pointer (some ⟨pt, 0, none⟩), .agg #[.int .i64 x, .int .i64 y], .int .i64 k] w fun e w' => ∃ v', e = .returned (.tuple #[v', .nilIface]) ∧ Sl encH w' v' ((allN B (x, y)).take k.toNat) ∧ RowKit.Below w.heap.size w w' := by
  have RC := Lib.hid (fun W => nright_call x y W)
  obtain ⟨hP, hk⟩ := Bool.and_eq_true_iff.1 h
  simp only [decide_eq_true_eq] at hk
  have ho := hp.onceB
  have WC := Lib.hid (fun W (hW : RowKit.Below w.heap.size w W) => nfirst_call ((fr_tr pt B).below hp hW) (by omega) (near1_cnt W) hP k hk)
  rw [farC_all] at WC
  rw [hP] at RC
  have hk0 : ¬ k < 0 := by omega
  have hlen : ((farL B (x, y)).take k.toNat).length ≤ 100 := by
    rw [List.length_take, farL_len ho]
    omega
  have HT := Lib.hid (show ((farL B (x, y)).take k.toNat).map (·.2) = (allN B (x, y)).take k.toNat by unfold allN; rw [List.map_take])
  obtain ⟨T, hT⟩ : ∃ T, T = (allN B (x, y)).take k.toNat := ⟨_, rfl⟩
  rw [← hT]
  rw [← hT] at HT
  have hx0 := heap_alloc_new w (.cells #[.int .i64 x, .int .i64 y] 24)
  clear h hP hp hT hk ho hl
  generalize (farL B (x, y)).take k.toNat = L at *
  go_enter Tryz.func17, Tryz.ntmps17
  go_wp2_with fail
  refine (RC.out _).mono ?_
  rintro e w1 ⟨rfl, hb1⟩
  have B1 := Lib.hid (Bt (Ba (Below.refl _ w) (.cells #[.int .i64 x, .int .i64 y] 24)) hb1)
  obtain ⟨x1, x2, _, _⟩ := two_cells (blk_below hx0 hb1)
  have hxl := cell_lt x1
  have W1 := Lib.hid (WC.out w1 B1.out)
  clear hb1 hx0 WC RC
  go_wp2_with fail
  refine W1.out.mono ?_
  rintro e w2 ⟨v2, rfl, hs2, hb2⟩
  have NH := Lib.hid (nhandles_call _ v2 w2 hs2 (by omega))
  rw [HT.out] at NH
  have B2 := Lib.hid (Bt B1.out hb2)
  clear hs2 hb2 W1
  go_wp2_with fail
  refine NH.out.mono ?_
  rintro e w3 ⟨v3, rfl, hs3, hb3⟩
  have S3 := Lib.hid hs3
  have B3 := Lib.hid (Bt B2.out hb3)
  clear hs3 hb3 NH
  go_wp2
  go_ret2
  exact ⟨_, rfl, S3.out, B3.out⟩
theorem nRadius_no (x y r : Int) (hp : TrAt w M pt B) (h : (placeB (x, y) && okRad r) = false) (hE : Er3 w eR eN eF) :
    Calls Tryz.prog 12 #[.pointer (some ⟨pt, 0, none⟩), .agg #[.int .i64 x, .int .i64 y], .int .i64 r] w fun e w' => ∃ v', e = .returned (.tuple #[v', .iface eR.1 eR.2]) ∧ Sl encH w' v' [] ∧ RowKit.Below w.heap.size w w' := nRadius_noV x y r h hE _
theorem nNearest_no (x y k : Int) (hp : TrAt w M pt B) (h : (placeB (x, y) && decide (0 ≤ k)) = false) (hE : Er3 w eR eN eF) :
    Calls Tryz.prog 17 #[.pointer (some ⟨pt, 0, none⟩), .agg #[.int .i64 x, .int .i64 y], .int .i64 k] w fun e w' => ∃ v', e = .returned (.tuple #[v', .iface eR.1 eR.2]) ∧ Sl encH w' v' [] ∧ RowKit.Below w.heap.size w w' := nNearest_noV x y k h hE _
end
end Go.Proofs.YtahichjiphjapaaGreatDoor

/-
  Package near: Closest, Around.
-/
namespace Go.Proofs.YtahichjiphjapaaGreatDoor
set_option linter.unusedSimpArgs false
set_option linter.unusedVariables false
open Go.RowKit Go.Sort Go.Lib Go.Shelf

set_option maxHeartbeats 1000000 in
set_option maxRecDepth 100000 in
theorem close1_call (lb : List Hd) (pb : Option Addr) (cb : Nat) (a b : Int) (bo : Nat) (W : World) (hc : W.cell? ⟨bo, 0, none⟩ = some (.slice pb lb.length cb)) (hs : Sl encH W (.slice pb lb.length cb) lb) (hr : Rise ltH lb) (hlen : lb.length ≤ 100000) :
    Calls Tryz.prog 42 #[.agg #[.int .i64 a, .int .i64 b], .pointer (some ⟨bo, 0, none⟩)] W fun e w' => e = .returned (.bool (!decide (((a, b) : Hd) ∈ lb))) ∧ RowKit.Below W.heap.size W w' := by
  have hl := cell_lt hc
  have hne : ¬ bo = W.heap.size := by omega
  have HS := Lib.hid (hs.below (Ba (Below.refl _ W) (.cells #[.int .i64 a, .int .i64 b] 42)))
  have HF := Lib.hid (find_call lb _ a b _ HS.out hr hlen)
  clear hs hr
  by_cases hx : ((a, b) : Hd) ∈ lb
  · rw [if_pos hx] at HF
    have HE := Lib.hid (show (!decide (((a, b) : Hd) ∈ lb)) = false by simp [hx])
    rw [HE.out]
    clear hx HE
    generalize headLess ltH (a, b) lb = n at *
    have hn : ¬ (n : Int) < 0 := by omega
    go_enter Tryz.func42, Tryz.ntmps42
    go_wp2_with fail
    refine HF.out.mono ?_
    rintro e w1 ⟨rfl, hg1⟩
    have b1 := Lib.hid hg1.below
    go_wp2
    go_ret
    exact ⟨by simp, Bt (Ba (Below.refl _ W) (.cells #[.int .i64 a, .int .i64 b] 42)) b1.out⟩
  · rw [if_neg hx] at HF
    have HE := Lib.hid (show (!decide (((a, b) : Hd) ∈ lb)) = true by simp [hx])
    rw [HE.out]
    clear hx HE
    go_enter Tryz.func42, Tryz.ntmps42
    go_wp2_with fail
    refine HF.out.mono ?_
    rintro e w1 ⟨rfl, hg1⟩
    have b1 := Lib.hid hg1.below
    go_wp2
    go_ret
    exact ⟨by simp, Bt (Ba (Below.refl _ W) (.cells #[.int .i64 a, .int .i64 b] 42)) b1.out⟩
theorem close1_cnt (lb : List Hd) (v : Value) (bo : Nat) (W : World) (hc : W.cell? ⟨bo, 0, none⟩ = some v) (hs : Sl encH W v lb) (hr : Rise ltH lb) (hlen : lb.length ≤ 100000) : CntF W 42 #[.pointer (some ⟨bo, 0, none⟩)] (fun h => !decide (h ∈ lb)) := by
  refine ⟨enters_of Tryz.func42 (by kernel_rfl) rfl, fun x y W' hW => ?_⟩
  obtain ⟨pb, cb, rfl, h1, h2, h3⟩ := hs
  exact close1_call lb pb cb x y bo W' (Bc hW (cell_lt hc) hc) (Sl.below ⟨pb, cb, rfl, h1, h2, h3⟩ hW) hr hlen
section
variable {w : World} {M : Nat → Prop} {pt : Nat} {B : List Bxd} {eR eN eF : TypeId × Value}
/-- The nearest one, but some. -/
def closeN (B : List Bxd) (p : Pt) (lb : List Hd) : Option Hd := (allN B p).find? fun h => !decide (h ∈ lb)
theorem close_srt (B : List Bxd) (p : Pt) (lb : List Hd) : closeN B p (srt ltH lb) = closeN B p lb := by
  unfold closeN
  congr 1
  funext h
  rw [decide_eq_decide.2 (mem_srt sto_hd lb h)]
set_option maxHeartbeats 1000000 in
set_option maxRecDepth 100000 in
theorem nClosest_no (x y : Int) (vb : Value) (hp : TrAt w M pt B) (h : placeB (x, y) = false) (hE : Er3 w eR eN eF) :
    Calls Tryz.prog 21 #[.pointer (some ⟨pt, 0, none⟩), .agg #[.int .i64 x, .int .i64 y], vb] w fun e w' => e = .returned (.tuple #[.agg #[.int .i64 0, .int .i64 0], .bool false, .iface eR.1 eR.2]) ∧ RowKit.Below w.heap.size w w' := by
  have RC := Lib.hid (fun W => nright_call x y W)
  have hg := hE.eR
  have hgl := cell_lt hg
  rw [h] at RC
  clear hE hp h
  go_enter Tryz.func21, Tryz.ntmps21
  go_wp2_with fail
  refine (RC.out _).mono ?_
  rintro e w1 ⟨rfl, hb1⟩
  obtain ⟨-, k2⟩ := three_blk (w := w) (o1 := .cells #[.int .i64 x, .int .i64 y] 24) (o2 := .cells #[.int .i64 0, .int .i64 0] 42) hb1
  obtain ⟨c1, c2, f1, f2⟩ := two_cells k2
  have hl := cell_lt c1
  have b1 := Bt (Ba (Ba (Below.refl _ w) (.cells #[.int .i64 x, .int .i64 y] 24)) (.cells #[.int .i64 0, .int .i64 0] 42)) hb1
  have hg1 := Bc b1 hgl hg
  have hgl1 := Bl b1 hgl
  have B1 := Lib.hid b1
  clear hb1 b1 hg hgl RC k2
  go_wp2
  go_region
  all_goals
    go_wp2
    exact bodyPost_ret (v := .tuple #[.agg #[.int .i64 0, .int .i64 0], .bool false, .iface eR.1 eR.2]) (by simp [results, Tryz.results21, go_sem, *]) rfl ⟨rfl, (by have := B1.out; exact (by repeat (first | with_reducible exact Below.refl _ _ | with_reducible assumption | with_reducible apply Ba | with_reducible apply Bd | with_reducible apply Bn | with_reducible apply Bg | (with_reducible refine Bs ?_ (by first | (simp; done) | (simp; omega)) _) | (with_reducible refine Bt ?_ (by assumption)) | (with_reducible refine Bt ?_ (Gr.below (by assumption))))))⟩
set_option maxHeartbeats 1000000 in
set_option maxRecDepth 100000 in
theorem nClosest_do (x y : Int) (vb : Value) (lb : List Hd) (hb : Sl encH w vb lb) (hlb : lb.length ≤ 100) (hp : TrAt w M pt B) (h : placeB (x, y) = true) (hl : B.length ≤ 100) :
    Calls Tryz.prog 21 #[.pointer (some ⟨pt, 0, none⟩), .agg #[.int .i64 x, .int .i64 y], vb] w fun e w' => e = .returned (.tuple #[mH ((closeN B (x, y) lb).getD (0, 0)), .bool (closeN B (x, y) lb).isSome, .nilIface]) ∧ RowKit.Below w.heap.size w w' := by
  have RC := Lib.hid (fun W => nright_call x y W)
  have WC := Lib.hid (fun W v bo (hW : RowKit.Below w.heap.size w W) (hc : W.cell? ⟨bo, 0, none⟩ = some v) (hs : Sl encH W v (srt ltH lb)) => nfirst_call ((fr_tr pt B).below hp hW) (by omega) (close1_cnt (srt ltH lb) v bo W hc hs (rise_srt sto_hd _) (Nat.le_trans (srt_len _ _) (by omega))) h 1 (by omega))
  have HC := Lib.hid (fun W (hW : RowKit.Below w.heap.size w W) => handles_call lb vb W (hb.below hW) (by omega))
  have HN := Lib.hid (near_one B (x, y) (fun z => !decide (z ∈ srt ltH lb)))
  rw [show (allN B (x, y)).find? (fun z => !decide (z ∈ srt ltH lb)) = closeN B (x, y) (srt ltH lb) from rfl, close_srt] at HN
  rw [h] at RC
  generalize closeN B (x, y) lb = C at *
  generalize farC B (x, y) (fun z => !decide (z ∈ srt ltH lb)) = F at *
  generalize srt ltH lb = sb at *
  rw [show (1 : Int).toNat = 1 from rfl] at WC
  clear hb hlb hp h hl
  go_enter Tryz.func21, Tryz.ntmps21
  go_wp2_with fail
  refine (RC.out _).mono ?_
  rintro e w1 ⟨rfl, hb1⟩
  obtain ⟨k1, k2⟩ := three_blk (w := w) (o1 := .cells #[.int .i64 x, .int .i64 y] 24) (o2 := .cells #[.int .i64 0, .int .i64 0] 42) hb1
  have K1 := Lib.hid k1
  have K2 := Lib.hid k2
  have B1 := Lib.hid (Bt (Ba (Ba (Below.refl _ w) (.cells #[.int .i64 x, .int .i64 y] 24)) (.cells #[.int .i64 0, .int .i64 0] 42)) hb1)
  have H1 := Lib.hid (HC.out w1 B1.out)
  clear hb1 k1 k2 HC RC
  go_wp2_with fail
  refine H1.out.mono ?_
  rintro e w2 ⟨v2, rfl, ho2, hb2⟩
  have S2 := Lib.hid (ho2.sl lenH)
  obtain ⟨p2, cap2, rfl, _, _, _⟩ := ho2
  have B2 := Lib.hid (Bt B1.out hb2)
  have k1 := blk_below K1.out hb2
  have K22 := Lib.hid (blk_below K2.out hb2)
  obtain ⟨x1, x2, _, _⟩ := two_cells k1
  have hxl := cell_lt x1
  clear hb2 H1 k1 K1 K2
  have hmf : ∀ (fn : Fn) (first cap : Array Value) (w : World), (Instr.makeFunc fn first cap).run Tryz.prog w = .ok (.func fn first cap) w := fun _ _ _ _ => rfl
  have b3 := Ba (Below.refl _ w2) (.cells #[.slice p2 sb.length cap2] 30)
  have W3 := Lib.hid (WC.out (w2.alloc (.cells #[.slice p2 sb.length cap2] 30)) _ w2.heap.size (Bt B2.out b3) (by simp) (S2.out.below b3))
  have B3 := Lib.hid (Bt B2.out b3)
  have K3 := Lib.hid (blk_below K22.out b3)
  clear b3 WC S2 K22 B2
  go_wp2_with fail
  refine W3.out.mono ?_
  rintro e w4 ⟨v4, rfl, hs4, hb4⟩
  have B4 := Lib.hid (Bt B3.out hb4)
  obtain ⟨c1, c2, f1, f2⟩ := two_cells (blk_below K3.out hb4)
  have hl := cell_lt c1
  clear hb4 W3 K3 B3 x1 x2 hxl
  cases F with
  | nil =>
    obtain ⟨p4, cap4, rfl, _, _, _⟩ := hs4
    rw [show ([] : List Fa).take 1 = [] from rfl]
    go_wp2
    exact bodyPost_ret (v := .tuple #[.agg #[.int .i64 0, .int .i64 0], .bool false, .nilIface]) (by simp [results, Tryz.results21, go_sem, *]) rfl ⟨by rw [← HN.out]; rfl, (by have := B4.out; exact (by repeat (first | with_reducible exact Below.refl _ _ | with_reducible assumption | with_reducible apply Ba | with_reducible apply Bd | with_reducible apply Bn | with_reducible apply Bg | (with_reducible refine Bs ?_ (by first | (simp; done) | (simp; omega)) _) | (with_reducible refine Bt ?_ (by assumption)) | (with_reducible refine Bt ?_ (Gr.below (by assumption))))))⟩
  | cons z t =>
    rw [List.take_succ_cons, List.take_zero] at hs4
    obtain ⟨p4, cap4, rfl, hc1, hc2, hc3⟩ := hs4
    obtain ⟨g4, o4, rfl, hg4, hc4⟩ := hc3 (by simp)
    obtain ⟨z1, z2, z3⟩ := z
    have d1 : w4.cell? ⟨g4, o4, none⟩ = some (.int .i64 z2) := hc4 0 _ rfl
    have d2 : w4.cell? ⟨g4, o4 + 1, none⟩ = some (.int .i64 z3) := hc4 1 _ rfl
    clear hc3 hc4
    go_wp2
    exact bodyPost_ret (v := .tuple #[.agg #[.int .i64 z2, .int .i64 z3], .bool true, .nilIface]) (by simp [results, Tryz.results21, go_sem, *]) rfl ⟨by rw [← HN.out]; rfl, (by have := B4.out; exact (by repeat (first | with_reducible exact Below.refl _ _ | with_reducible assumption | with_reducible apply Ba | with_reducible apply Bd | with_reducible apply Bn | with_reducible apply Bg | (with_reducible refine Bs ?_ (by first | (simp; done) | (simp; omega)) _) | (with_reducible refine Bt ?_ (by assumption)) | (with_reducible refine Bt ?_ (Gr.below (by assumption))))))⟩
set_option maxHeartbeats 1000000 in
set_option maxRecDepth 100000 in
theorem nAround_none (a b r : Int) (hp : TrAt w M pt B) (hx : HdOk (a, b)) (hn : boxF B (a, b) = none) (hE : Er3 w eR eN eF) :
    Calls Tryz.prog 19 #[.pointer (some ⟨pt, 0, none⟩), .agg #[.int .i64 a, .int .i64 b], .int .i64 r] w fun e w' => ∃ v', e = .returned (.tuple #[v', .iface eN.1 eN.2]) ∧ Sl encH w' v' [] ∧ RowKit.Below w.heap.size w w' := by
  have BC := Lib.hid (boxT_call ((fr_tr pt B).below hp (Ba (Below.refl _ w) (.cells #[.int .i64 a, .int .i64 b] 42))) a b hx)
  rw [hn] at BC
  simp only [Option.getD_none, Option.isSome_none] at BC
  unfold bxV at BC
  dsimp only at BC
  have hg := hE.eN
  have hgl := cell_lt hg
  clear hE hp hn hx
  go_enter Tryz.func19, Tryz.ntmps19
  go_wp2_with fail
  refine BC.out.mono ?_
  rintro e w1 ⟨rfl, hb1⟩
  have b1 := Bt (Ba (Below.refl _ w) (.cells #[.int .i64 a, .int .i64 b] 42)) hb1
  have hg1 := Bc b1 hgl hg
  have hgl1 := Bl b1 hgl
  have B1 := Lib.hid b1
  clear hb1 b1 hg hgl BC
  go_wp2
  go_region
  go_wp2
  go_ret2
  exact ⟨_, rfl, Sl.nil none 0 (by unfold maxLen; omega), (by have := B1.out; exact (by repeat (first | with_reducible exact Below.refl _ _ | with_reducible assumption | with_reducible apply Ba | with_reducible apply Bd | with_reducible apply Bn | with_reducible apply Bg | (with_reducible refine Bs ?_ (by first | (simp; done) | (simp; omega)) _) | (with_reducible refine Bt ?_ (by assumption)) | (with_reducible refine Bt ?_ (Gr.below (by assumption))))))⟩
set_option maxHeartbeats 1000000 in
set_option maxRecDepth 100000 in
theorem nAround_no (a b r : Int) (hp : TrAt w M pt B) (hx : HdOk (a, b)) {x : Bx4} (hn : boxF B (a, b) = some x) (h : (placeB (ctrB x) && okRad r) = false) (hE : Er3 w eR eN eF) :
    Calls Tryz.prog 19 #[.pointer (some ⟨pt, 0, none⟩), .agg #[.int .i64 a, .int .i64 b], .int .i64 r] w fun e w' => ∃ v', e = .returned (.tuple #[v', .iface eR.1 eR.2]) ∧ Sl encH w' v' [] ∧ RowKit.Below w.heap.size w w' := by
  have BC := Lib.hid (boxT_call ((fr_tr pt B).below hp (Ba (Below.refl _ w) (.cells #[.int .i64 a, .int .i64 b] 42))) a b hx)
  have hok := (hp.okB _ (boxF_some hn)).1
  rw [hn] at BC
  simp only [Option.getD_some, Option.isSome_some] at BC
  obtain ⟨x1, x2, x3, x4⟩ := x
  have CC := Lib.hid (fun W => ncentre_call x1 x2 x3 x4 W hok)
  have RN := Lib.hid (fun W (hW : RowKit.Below w.heap.size w W) => nRadius_noV (eN := eN) (eF := eF) (ctrB (x1, x2, x3, x4)).1 (ctrB (x1, x2, x3, x4)).2 r h (hE.below hW) (.pointer (some ⟨pt, 0, none⟩)))
  generalize ctrB (x1, x2, x3, x4) = q at *
  obtain ⟨q1, q2⟩ := q
  unfold bxV at BC
  dsimp only at BC CC RN
  clear hE hp hn hx hok h
  go_enter Tryz.func19, Tryz.ntmps19
  go_wp2_with fail
  refine BC.out.mono ?_
  rintro e w1 ⟨rfl, hb1⟩
  have B1 := Lib.hid (Bt (Ba (Below.refl _ w) (.cells #[.int .i64 a, .int .i64 b] 42)) hb1)
  clear hb1 BC
  go_wp2_with fail
  refine (CC.out _).mono ?_
  rintro e w2 ⟨rfl, hb2⟩
  have B2 := Lib.hid (Bt B1.out (Bt (Ba (Below.refl _ w1) (.cells #[.int .i64 x1, .int .i64 x2, .int .i64 x3, .int .i64 x4] 45)) hb2))
  have R2 := Lib.hid (RN.out w2 B2.out)
  clear hb2 CC RN
  go_wp2_with fail
  refine R2.out.mono ?_
  rintro e w3 ⟨v3, rfl, hs3, hb3⟩
  have B3 := Lib.hid (Bt B2.out hb3)
  clear hb3 R2 hs3
  go_wp2
  go_ret2
  exact ⟨_, rfl, Sl.nil none 0 (by unfold maxLen; omega), B3.out⟩
set_option maxHeartbeats 1000000 in
set_option maxRecDepth 100000 in
theorem nAround_do (a b r : Int) (hp : TrAt w M pt B) (hx : HdOk (a, b)) {x : Bx4} (hn : boxF B (a, b) = some x) (h : (placeB (ctrB x) && okRad r) = true) (hl : B.length ≤ 100) :
    Calls Tryz.prog 19 #[.pointer (some ⟨pt, 0, none⟩), .agg #[.int .i64 a, .int .i64 b], .int .i64 r] w fun e w' => ∃ v', e = .returned (.tuple #[v', .nilIface]) ∧ Sl encH w' v' ((radL B (ctrB x) r).filter fun h => !decide (h = (a, b))) ∧ RowKit.Below w.heap.size w w' := by
  have BC := Lib.hid (boxT_call ((fr_tr pt B).below hp (Ba (Below.refl _ w) (.cells #[.int .i64 a, .int .i64 b] 42))) a b hx)
  have hok := (hp.okB _ (boxF_some hn)).1
  rw [hn] at BC
  simp only [Option.getD_some, Option.isSome_some] at BC
  obtain ⟨x1, x2, x3, x4⟩ := x
  have CC := Lib.hid (fun W => ncentre_call x1 x2 x3 x4 W hok)
  have RN := Lib.hid (fun W (hW : RowKit.Below w.heap.size w W) => nRadius_do (ctrB (x1, x2, x3, x4)).1 (ctrB (x1, x2, x3, x4)).2 r ((fr_tr pt B).below hp hW) h hl)
  have hlen : (radL B (ctrB (x1, x2, x3, x4)) r).length ≤ 100 := Nat.le_trans (radL_len _ _ _) hl
  generalize ctrB (x1, x2, x3, x4) = q at *
  obtain ⟨q1, q2⟩ := q
  unfold bxV at BC
  dsimp only at BC CC RN
  generalize radL B (q1, q2) r = L at *
  have HF := Lib.hid (show (L.filter fun h => !decide (h = (a, b))) = L.filter fun h => !decide (h ∈ [(a, b)]) by
    congr 1
    funext h
    simp)
  rw [HF.out]
  have hx0 := heap_alloc_new w (.cells #[.int .i64 a, .int .i64 b] 42)
  clear hp hn hx hok h hl HF
  go_enter Tryz.func19, Tryz.ntmps19
  go_wp2_with fail
  refine BC.out.mono ?_
  rintro e w1 ⟨rfl, hb1⟩
  have B1 := Lib.hid (Bt (Ba (Below.refl _ w) (.cells #[.int .i64 a, .int .i64 b] 42)) hb1)
  have K1 := Lib.hid (blk_below hx0 hb1)
  clear hb1 BC hx0
  go_wp2_with fail
  refine (CC.out _).mono ?_
  rintro e w2 ⟨rfl, hb2⟩
  have b2 := Bt (Ba (Below.refl _ w1) (.cells #[.int .i64 x1, .int .i64 x2, .int .i64 x3, .int .i64 x4] 45)) hb2
  have B2 := Lib.hid (Bt B1.out b2)
  have K2 := Lib.hid (blk_below K1.out b2)
  have R2 := Lib.hid (RN.out w2 B2.out)
  clear hb2 CC RN b2 K1
  go_wp2_with fail
  refine R2.out.mono ?_
  rintro e w3 ⟨v3, rfl, hs3, hb3⟩
  have B3 := Lib.hid (Bt B2.out hb3)
  obtain ⟨d1, d2, _, _⟩ := two_cells (blk_below K2.out hb3)
  have hdl := cell_lt d1
  have b4 := Ba (Below.refl _ w3) (.cells #[.int .i64 a, .int .i64 b] 42)
  have M3 := Lib.hid (minus_call L [(a, b)] v3 _ (w3.alloc (.cells #[.int .i64 a, .int .i64 b] 42)) (hs3.below b4) (sl_lit (enc := encH) (w := w3) (cs := #[.int .i64 a, .int .i64 b]) (t := 42) (b := w3.heap.size) [(a, b)] rfl rfl (by unfold maxLen; simp)) (List.pairwise_singleton _ _) (by omega) (by simp))
  have B4 := Lib.hid (Bt B3.out b4)
  clear hb3 R2 hs3 K2 b4
  go_wp2_with fail
  refine M3.out.mono ?_
  rintro e w5 ⟨v5, rfl, ho5, hb5⟩
  have S5 := Lib.hid (ho5.sl lenH)
  have B5 := Lib.hid (Bt B4.out hb5)
  clear ho5 hb5 M3
  go_wp2
  go_ret2
  exact ⟨_, rfl, S5.out, B5.out⟩
end
end Go.Proofs.YtahichjiphjapaaGreatDoor
