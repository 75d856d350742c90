/-
  The reference's table: Set, Add (written by mkrw.py).
-/
import Derived.Test.YtknfmjjlfhfocaaDoorRu
namespace Go.Proofs.YtknfmjjlfhfocaaDoor
set_option linter.unusedSimpArgs false
set_option linter.unusedVariables false
open Go.RowKit Go.Sort Go.Lib Go.Shelf

theorem keepS3 {W0 w1 : World} (h : RowKit.Below W0.heap.size W0 w1 ∧ ∀ b o, b < W0.heap.size → w1.cell? ⟨b, o, none⟩ = W0.cell? ⟨b, o, none⟩) {b : Nat} (hb : W0.heap.size ≤ b) (u1 u2 u3 : Value) :
    RowKit.Below W0.heap.size W0 (((w1.setCell ⟨b, 0, none⟩ u1).setCell ⟨b, 1, none⟩ u2).setCell ⟨b, 2, none⟩ u3) ∧ ∀ b' o, b' < W0.heap.size → (((w1.setCell ⟨b, 0, none⟩ u1).setCell ⟨b, 1, none⟩ u2).setCell ⟨b, 2, none⟩ u3).cell? ⟨b', o, none⟩ = W0.cell? ⟨b', o, none⟩ := by
  have hB := Bs (Bs (Bs h.1 (p := ⟨b, 0, none⟩) hb u1) (p := ⟨b, 1, none⟩) hb u2) (p := ⟨b, 2, none⟩) hb u3
  exact ⟨hB, fun b' o hl => hB.cell (p := ⟨b', o, none⟩) hl⟩
section
variable {w w' : World} {N X : Nat → Prop} {pr q : Nat} {R : List En}
/-- A row's slice is replaced by one in blocks from base on. -/
theorem RefI.set1 {g cap base : Nat} {rows : List Rw} {N1 N2 : Nat → Prop} (h : RefI w N pr q g cap R rows N1 N2) (hN : ∀ b, N b → b < base) (n : Nat) (hn : n < R.length) (s : Sp) (l : List Vl) (hs : SlN (fun b => base ≤ b ∧ b < w.heap.size) encV w (slV s) l) :
    RefT (w.setCell ⟨g, n * 3 + 2, none⟩ (slV s)) (fun b => N b ∨ (base ≤ b ∧ b < w.heap.size)) pr q (R.set n (R[n].1, l)) ∧ Tch N w (w.setCell ⟨g, n * 3 + 2, none⟩ (slV s)) := by
  have hne := h.ne
  have hng := (h.n1 g h.mg).1
  have t : Tch N1 w (w.setCell ⟨g, n * 3 + 2, none⟩ (slV s)) := Tch.set (M := N1) (p := ⟨g, n * 3 + 2, none⟩) w h.mg _
  have hnr : n < rows.length := by rw [h.len]; exact hn
  have r1 := rowE_put1 h.row n hnr s
  have hd := blk_far h.head (p := ⟨g, n * 3 + 2, none⟩) (Ne.symm hne) (slV s)
  refine ⟨⟨rows.set n (rows[n].1, s), .slice (some ⟨g, 0, none⟩) R.length cap, N1, fun b => N2 b ∨ (base ≤ b ∧ b < w.heap.size), hd, ⟨by rw [List.length_set, h.len]; exact r1, fun g' e => by simp only [Value.ownBlock, Option.some.injEq] at e; exact e ▸ h.mg⟩, by rw [List.length_set, List.length_set, h.len], fun i hi => ?_, h.mp, fun b e => ⟨.inl (h.n1 b e).1, fun c => c.elim (h.n1 b e).2 (fun c => by have := hN b (h.n1 b e).1; omega)⟩, fun b e => e.imp (h.n2 b) id, fun b e => e.elim (fun e => Nat.lt_of_lt_of_le (h.lt b e) t.size) (fun e => by simpa using e.2)⟩, t.mono (fun b e => (h.n1 b e).1)⟩
  rw [List.length_set] at hi
  have hir : i < rows.length := by rw [h.len]; exact hi
  rw [getElem!_pos _ i (by rw [List.length_set]; exact hir), getElem!_pos (R.set n _) i (by rw [List.length_set]; exact hi), List.getElem_set, List.getElem_set]
  obtain ⟨e1, e2⟩ := h.at' i hi
  by_cases c : n = i
  · subst c
    rw [if_pos rfl, if_pos rfl]
    rw [getElem!_pos rows n hnr, getElem!_pos R n hn] at e1
    exact ⟨e1, (hs.kept t (fun b a1 a2 => by have := hN b (h.n1 b a2).1; omega)).mono (fun b e => .inr e)⟩
  · rw [if_neg c, if_neg c]
    rw [getElem!_pos rows i hir, getElem!_pos R i hi] at e1 e2
    exact ⟨e1, (e2.kept t (fun b a1 a2 => (h.n1 b a2).2 a1)).mono (fun b e => .inl e)⟩

set_option maxHeartbeats 2000000 in
theorem rset_no (h : RefT w N pr q R) (i x1 x2 x3 : Int) (hn : ¬ (0 ≤ i ∧ i < R.length)) : Calls Tryd.prog 20 #[ptP pr, .int .i64 i, .agg #[.int .i64 x1, .int .i64 x2, .int .i64 x3]] w fun e w' => e = .returned (.int .i64 1) ∧ RowKit.Below w.heap.size w w' := by
  have HH : Hid (∀ W, RowKit.Below w.heap.size w W → Calls Tryd.prog 26 #[ptP pr, .int .i64 i] W fun e w' => e = .returned (.bool false) ∧ W = w') := fun W hb => by
    have := rhas_call (h.below hb) i
    rwa [decide_eq_false hn] at this
  clear h hn
  go_enter Tryd.func20, Tryd.ntmps20
  go_wp2_with fail
  refine (HH.out _ (Ba (Below.refl _ w) _)).mono ?_
  rintro e w1 ⟨rfl, rfl⟩
  go_wp2
  go_ret
  exact ⟨rfl, (by repeat (first | with_reducible exact Below.refl _ _ | with_reducible assumption | with_reducible apply Ba | with_reducible apply Bd | with_reducible apply Bn | with_reducible apply Bg | (with_reducible refine Bs ?_ (by first | (simp; done) | (simp; omega)) _) | (with_reducible refine Bt ?_ (by assumption)) | (with_reducible refine Bt ?_ (Gr.below (by assumption)))))⟩

set_option maxHeartbeats 4000000 in
set_option maxRecDepth 100000 in
theorem rset_kind (h : RefT w N pr q R) (n : Nat) (hn : n < R.length) (x1 x2 x3 : Int) (hhas : hasK R[n]!.2 x1 = false) :
    Calls Tryd.prog 20 #[ptP pr, .int .i64 n, .agg #[.int .i64 x1, .int .i64 x2, .int .i64 x3]] w fun e w' => e = .returned (.int .i64 5) ∧ RowKit.Below w.heap.size w w' := by
  have HH : Hid (∀ W, RowKit.Below w.heap.size w W → Calls Tryd.prog 26 #[ptP pr, .int .i64 n] W fun e w' => e = .returned (.bool true) ∧ W = w') := fun W hb => by
    have := rhas_call (h.below hb) n
    rwa [decide_eq_true (show 0 ≤ (n : Int) ∧ (n : Int) < R.length from ⟨by omega, by omega⟩)] at this
  obtain ⟨g, cap, rows, N1, N2, hI, hc1, hc2⟩ := h.inside (by omega)
  obtain ⟨W0, hW0⟩ : ∃ W0, W0 = w.alloc (.cells #[.int .i64 x1, .int .i64 x2, .int .i64 x3] 41) := ⟨_, rfl⟩
  have B0 := Lib.hid (show RowKit.Below w.heap.size w W0 by rw [hW0]; exact Ba (Below.refl _ w) _)
  have b0 := Lib.hid (show W0.heap[w.heap.size]? = some (.cells #[.int .i64 x1, .int .i64 x2, .int .i64 x3] 41 (0, 0)) by rw [hW0]; exact heap_alloc_new w _)
  have I0 := Lib.hid (hI.below B0.out)
  have HI := Lib.hid hI
  obtain ⟨sp, c, hrn, _, _, d3, ⟨_, _, y3⟩, hs⟩ := I0.out.cells hn
  obtain ⟨c0, c1, _, _⟩ := two_cells I0.out.head
  obtain ⟨⟨a1, a2, a3⟩, _⟩ := three_cells b0.out
  have hl := cell_lt c0
  have hlg := cell_lt d3
  have hla := cell_lt a1
  have CF : Hid (∀ W, RowKit.Below W0.heap.size W0 W → Calls Tryd.prog 30 #[.slice sp R[n]!.2.length c, .int .i64 x1] W fun e w' => e = .returned (.tuple #[aggV (fndV R[n]!.2 x1), .bool (hasK R[n]!.2 x1)]) ∧ RowKit.Below W.heap.size W w') := fun W hb => (rfind_call _ _ x1 W (hs.below hb)).mono fun e w' ⟨h1, h2⟩ => ⟨h1, h2.below⟩
  unfold aggV at CF
  rw [hhas] at CF
  generalize fndV R[n]!.2 x1 = fv at *
  obtain ⟨f1, f2, f3⟩ := fv
  dsimp only at CF
  obtain ⟨ll, hlle⟩ : ∃ ll, ll = R[n]!.2.length := ⟨_, rfl⟩
  rw [← hlle] at d3 CF
  clear h hI hs hrn hlle hhas
  go_enter Tryd.func20, Tryd.ntmps20
  go_wp2_with fail
  rw [← hW0]
  refine (HH.out _ B0.out).mono ?_
  rintro e w1 ⟨rfl, rfl⟩
  clear hW0
  go_wp2_with fail
  refine wp_region_held_drew (S := (fun w' => Below (W0).heap.size (W0) w' ∧ ∀ b_1 o, b_1 < (W0).heap.size → w'.cell? ⟨b_1, o, none⟩ = (W0).cell? ⟨b_1, o, none⟩)) (by kernel_rfl) (keep0 _) (fun hHeld => ?_)
  (refine wpAnyH_take (i := 0) (v := ?_) rfl (by kernel_rfl) (by kernel_rfl) (by kernel_rfl) (fun _ _ _ h => h) (Or.inl ⟨by rfl, ?rt⟩) (by assumption) ?_; case rt => (intro w hSw; (try dsimp only at hSw); go_simp; (try with_reducible rfl))); (try simp only [Act.put, List.getElem_toArray, List.getElem_cons_succ, List.getElem_cons_zero, List.setIfInBounds_toArray, List.set_cons_zero, List.set_cons_succ])
  (refine wpAnyH_take (i := 1) (v := ?_) rfl (by kernel_rfl) (by kernel_rfl) (by kernel_rfl) (fun _ _ _ h => h) (Or.inl ⟨by rfl, ?rt⟩) (by assumption) ?_; case rt => (intro w hSw; (try dsimp only at hSw); go_simp; (try with_reducible rfl))); (try simp only [Act.put, List.getElem_toArray, List.getElem_cons_succ, List.getElem_cons_zero, List.setIfInBounds_toArray, List.set_cons_zero, List.set_cons_succ])
  (refine wpAnyH_take (i := 2) (v := ?_) rfl (by kernel_rfl) (by kernel_rfl) (by kernel_rfl) (fun _ _ _ h => h) (Or.inl ⟨by rfl, ?rt⟩) (by assumption) ?_; case rt => (intro w hSw; (try dsimp only at hSw); go_simp; (try with_reducible rfl))); (try simp only [Act.put, List.getElem_toArray, List.getElem_cons_succ, List.getElem_cons_zero, List.setIfInBounds_toArray, List.set_cons_zero, List.set_cons_succ])
  (refine wpAnyH_take (i := 3) (v := ?_) rfl (by kernel_rfl) (by kernel_rfl) (by kernel_rfl) (fun _ _ _ h => h) (Or.inl ⟨by rfl, ?rt⟩) (by assumption) ?_; case rt => (intro w hSw; (try dsimp only at hSw); go_simp; (try with_reducible rfl))); (try simp only [Act.put, List.getElem_toArray, List.getElem_cons_succ, List.getElem_cons_zero, List.setIfInBounds_toArray, List.set_cons_zero, List.set_cons_succ])
  (refine wpAnyH_take (i := 4) (v := ?_) rfl (by kernel_rfl) (by kernel_rfl) (by kernel_rfl) (fun _ _ _ h => h) (Or.inl ⟨by rfl, ?rt⟩) (by assumption) ?_; case rt => (intro w hSw; (try dsimp only at hSw); go_simp; (try with_reducible rfl))); (try simp only [Act.put, List.getElem_toArray, List.getElem_cons_succ, List.getElem_cons_zero, List.setIfInBounds_toArray, List.set_cons_zero, List.set_cons_succ])
  (refine wpAnyH_take (i := 5) (v := ?_) rfl (by kernel_rfl) (by kernel_rfl) (by kernel_rfl) (fun _ _ _ h => h) (Or.inl ⟨by rfl, ?rt⟩) (by assumption) ?_; case rt => (intro w hSw; (try dsimp only at hSw); go_simp; (try with_reducible rfl))); (try simp only [Act.put, List.getElem_toArray, List.getElem_cons_succ, List.getElem_cons_zero, List.setIfInBounds_toArray, List.set_cons_zero, List.set_cons_succ])
  (refine wpAnyH_take (i := 6) (v := ?_) rfl (by kernel_rfl) (by kernel_rfl) (by kernel_rfl) (fun _ _ _ h => h) (Or.inl ⟨by rfl, ?rt⟩) (by assumption) ?_; case rt => (intro w hSw; (try dsimp only at hSw); go_simp; (try with_reducible rfl))); (try simp only [Act.put, List.getElem_toArray, List.getElem_cons_succ, List.getElem_cons_zero, List.setIfInBounds_toArray, List.set_cons_zero, List.set_cons_succ])
  (refine wpAnyH_take (i := 7) (v := ?_) rfl (by kernel_rfl) (by kernel_rfl) (by kernel_rfl) (fun _ _ _ h => h) (Or.inl ⟨by rfl, ?rt⟩) (by assumption) ?_; case rt => (intro w hSw; (try dsimp only at hSw); go_simp; (try with_reducible rfl))); (try simp only [Act.put, List.getElem_toArray, List.getElem_cons_succ, List.getElem_cons_zero, List.setIfInBounds_toArray, List.set_cons_zero, List.set_cons_succ])
  (refine wpAnyH_take (i := 8) (v := ?_) rfl (by kernel_rfl) (by kernel_rfl) (by kernel_rfl) (fun _ _ _ h => h) (Or.inl ⟨by rfl, ?rt⟩) (by assumption) ?_; case rt => (intro w hSw; (try dsimp only at hSw); go_simp; (try with_reducible rfl))); (try simp only [Act.put, List.getElem_toArray, List.getElem_cons_succ, List.getElem_cons_zero, List.setIfInBounds_toArray, List.set_cons_zero, List.set_cons_succ])
  (refine wpAnyH_take (i := 9) (v := ?_) rfl (by kernel_rfl) (by kernel_rfl) (by kernel_rfl) (fun _ _ _ h => h) (Or.inl ⟨by rfl, ?rt⟩) (by assumption) ?_; case rt => (intro w hSw; (try dsimp only at hSw); go_simp; (try with_reducible rfl))); (try simp only [Act.put, List.getElem_toArray, List.getElem_cons_succ, List.getElem_cons_zero, List.setIfInBounds_toArray, List.set_cons_zero, List.set_cons_succ])
  refine wpAnyH_ready (rs := [10, 14]) (by kernel_rfl) (by simp) ?_; refine (AllReadyH.cons rfl (fun K hK => ?_) (AllReadyH.cons rfl (fun K hK => ?_) AllReadyH.nil))
  · go_simp; refine (CF.out _ (And.left (by assumption))).mono ?_; rintro e w1 ⟨rfl, hb1⟩; refine hK.out _ _ (keepB (by assumption) hb1) (fun hHeld => ?_); clear hK K; (try simp only [Act.put, List.getElem_toArray, List.getElem_cons_succ, List.getElem_cons_zero, List.setIfInBounds_toArray, List.set_cons_zero, List.set_cons_succ]); have BC := Lib.hid hb1; clear hb1; have hC := hHeld
    (refine wpAnyH_take (i := 11) (v := ?_) rfl (by kernel_rfl) (by kernel_rfl) (by kernel_rfl) (fun _ _ _ h => h) (Or.inl ⟨by rfl, ?rt⟩) (by assumption) ?_; case rt => (intro w hSw; (try dsimp only at hSw); go_simp; (try with_reducible rfl))); (try simp only [Act.put, List.getElem_toArray, List.getElem_cons_succ, List.getElem_cons_zero, List.setIfInBounds_toArray, List.set_cons_zero, List.set_cons_succ])
    (refine wpAnyH_take (i := 12) (v := ?_) rfl (by kernel_rfl) (by kernel_rfl) (by kernel_rfl) (fun _ _ _ h => h) (Or.inl ⟨by rfl, ?rt⟩) (by assumption) ?_; case rt => (intro w hSw; (try dsimp only at hSw); go_simp; (try with_reducible rfl))); (try simp only [Act.put, List.getElem_toArray, List.getElem_cons_succ, List.getElem_cons_zero, List.setIfInBounds_toArray, List.set_cons_zero, List.set_cons_succ])
    (refine wpAnyH_take (i := 13) (v := ?_) rfl (by kernel_rfl) (by kernel_rfl) (by kernel_rfl) (fun _ _ _ h => h) (Or.inl ⟨by rfl, ?rt⟩) (by assumption) ?_; case rt => (intro w hSw; (try dsimp only at hSw); go_simp; (try with_reducible rfl))); (try simp only [Act.put, List.getElem_toArray, List.getElem_cons_succ, List.getElem_cons_zero, List.setIfInBounds_toArray, List.set_cons_zero, List.set_cons_succ])
    refine wpAnyH_ready (rs := [14]) (by kernel_rfl) (by simp) ?_; refine (AllReadyH.cons rfl (fun K hK => ?_) AllReadyH.nil)
    go_simp; refine hK.out _ _ (keepA (by assumption) _) (fun hHeld => ?_); clear hK K; (try simp only [Act.put, List.getElem_toArray, List.getElem_cons_succ, List.getElem_cons_zero, List.setIfInBounds_toArray, List.set_cons_zero, List.set_cons_succ])
    have hw1 : W0.heap.size ≤ w1.heap.size := BC.out.size
    refine wpAnyH_ready (rs := [15]) (by kernel_rfl) (by simp) ?_; refine (AllReadyH.cons rfl (fun K hK => ?_) AllReadyH.nil)
    go_simp; refine hK.out _ _ (keepA hC _) (fun hHeld => ?_); clear hK K; (try simp only [Act.put, List.getElem_toArray, List.getElem_cons_succ, List.getElem_cons_zero, List.setIfInBounds_toArray, List.set_cons_zero, List.set_cons_succ])
    (refine wpAnyH_take (i := 16) (v := ?_) rfl (by kernel_rfl) (by kernel_rfl) (by kernel_rfl) (fun _ _ _ h => h) (Or.inl ⟨by rfl, ?rt⟩) (by assumption) ?_; case rt => (intro w hSw; (try dsimp only at hSw); go_simp; (try with_reducible rfl))); (try simp only [Act.put, List.getElem_toArray, List.getElem_cons_succ, List.getElem_cons_zero, List.setIfInBounds_toArray, List.set_cons_zero, List.set_cons_succ])
    refine wpAnyH_done (by kernel_rfl) ?_ _
    have B3 := Lib.hid (Bt B0.out hHeld.1)
    go_wp2
    go_ret
    exact ⟨rfl, B3.out⟩
  · go_simp; refine hK.out _ _ (keepA (by assumption) _) (fun hHeld => ?_); clear hK K; (try simp only [Act.put, List.getElem_toArray, List.getElem_cons_succ, List.getElem_cons_zero, List.setIfInBounds_toArray, List.set_cons_zero, List.set_cons_succ])
    have zb := heap_alloc_new W0.drew (.cells #[.int .i64 0, .int .i64 0, .int .i64 0] 41)
    refine wpAnyH_ready (rs := [10]) (by kernel_rfl) (by simp) ?_; refine (AllReadyH.cons rfl (fun K hK => ?_) AllReadyH.nil)
    go_simp; refine (CF.out _ (And.left (by assumption))).mono ?_; rintro e w1 ⟨rfl, hb1⟩; refine hK.out _ _ (keepB (by assumption) hb1) (fun hHeld => ?_); clear hK K; (try simp only [Act.put, List.getElem_toArray, List.getElem_cons_succ, List.getElem_cons_zero, List.setIfInBounds_toArray, List.set_cons_zero, List.set_cons_succ]); have BC := Lib.hid hb1; clear hb1
    have zb1 := blk_below zb BC.out
    obtain ⟨⟨z1, z2, z3⟩, zf1, zf2, zf3⟩ := three_cells (pa := W0.heap.size) zb1
    have hlz : W0.heap.size < w1.heap.size := cell_lt z1
    (refine wpAnyH_take (i := 11) (v := ?_) rfl (by kernel_rfl) (by kernel_rfl) (by kernel_rfl) (fun _ _ _ h => h) (Or.inl ⟨by rfl, ?rt⟩) (by assumption) ?_; case rt => (intro w hSw; (try dsimp only at hSw); go_simp; (try with_reducible rfl))); (try simp only [Act.put, List.getElem_toArray, List.getElem_cons_succ, List.getElem_cons_zero, List.setIfInBounds_toArray, List.set_cons_zero, List.set_cons_succ])
    (refine wpAnyH_take (i := 12) (v := ?_) rfl (by kernel_rfl) (by kernel_rfl) (by kernel_rfl) (fun _ _ _ h => h) (Or.inl ⟨by rfl, ?rt⟩) (by assumption) ?_; case rt => (intro w hSw; (try dsimp only at hSw); go_simp; (try with_reducible rfl))); (try simp only [Act.put, List.getElem_toArray, List.getElem_cons_succ, List.getElem_cons_zero, List.setIfInBounds_toArray, List.set_cons_zero, List.set_cons_succ])
    (refine wpAnyH_take (i := 13) (v := ?_) rfl (by kernel_rfl) (by kernel_rfl) (by kernel_rfl) (fun _ _ _ h => h) (Or.inl ⟨by rfl, ?rt⟩) (by assumption) ?_; case rt => (intro w hSw; (try dsimp only at hSw); go_simp; (try with_reducible rfl))); (try simp only [Act.put, List.getElem_toArray, List.getElem_cons_succ, List.getElem_cons_zero, List.setIfInBounds_toArray, List.set_cons_zero, List.set_cons_succ])
    refine wpAnyH_ready (rs := [15]) (by kernel_rfl) (by simp) ?_; refine (AllReadyH.cons rfl (fun K hK => ?_) AllReadyH.nil)
    go_simp; refine hK.out _ _ (keepS3 (by assumption) (Nat.le_refl _) _ _ _) (fun hHeld => ?_); clear hK K; (try simp only [Act.put, List.getElem_toArray, List.getElem_cons_succ, List.getElem_cons_zero, List.setIfInBounds_toArray, List.set_cons_zero, List.set_cons_succ])
    (refine wpAnyH_take (i := 16) (v := ?_) rfl (by kernel_rfl) (by kernel_rfl) (by kernel_rfl) (fun _ _ _ h => h) (Or.inl ⟨by rfl, ?rt⟩) (by assumption) ?_; case rt => (intro w hSw; (try dsimp only at hSw); go_simp; (try with_reducible rfl))); (try simp only [Act.put, List.getElem_toArray, List.getElem_cons_succ, List.getElem_cons_zero, List.setIfInBounds_toArray, List.set_cons_zero, List.set_cons_succ])
    refine wpAnyH_done (by kernel_rfl) ?_ _
    clear zb zb1 z1 z2 z3 zf1 zf2 zf3 hlz
    have B3 := Lib.hid (Bt B0.out hHeld.1)
    go_wp2
    go_ret
    exact ⟨rfl, B3.out⟩

set_option maxHeartbeats 4000000 in
set_option maxRecDepth 100000 in
theorem rset_chk (h : RefT w N pr q R) (n : Nat) (hn : n < R.length) (x1 x2 x3 : Int) (hhas : hasK R[n]!.2 x1 = true) (hc : chk (x1, x2, x3) ≠ 0) :
    Calls Tryd.prog 20 #[ptP pr, .int .i64 n, .agg #[.int .i64 x1, .int .i64 x2, .int .i64 x3]] w fun e w' => e = .returned (.int .i64 (chk (x1, x2, x3) : Nat)) ∧ RowKit.Below w.heap.size w w' := by
  have HH : Hid (∀ W, RowKit.Below w.heap.size w W → Calls Tryd.prog 26 #[ptP pr, .int .i64 n] W fun e w' => e = .returned (.bool true) ∧ W = w') := fun W hb => by
    have := rhas_call (h.below hb) n
    rwa [decide_eq_true (show 0 ≤ (n : Int) ∧ (n : Int) < R.length from ⟨by omega, by omega⟩)] at this
  obtain ⟨g, cap, rows, N1, N2, hI, hc1, hc2⟩ := h.inside (by omega)
  obtain ⟨W0, hW0⟩ : ∃ W0, W0 = w.alloc (.cells #[.int .i64 x1, .int .i64 x2, .int .i64 x3] 41) := ⟨_, rfl⟩
  have B0 := Lib.hid (show RowKit.Below w.heap.size w W0 by rw [hW0]; exact Ba (Below.refl _ w) _)
  have b0 := Lib.hid (show W0.heap[w.heap.size]? = some (.cells #[.int .i64 x1, .int .i64 x2, .int .i64 x3] 41 (0, 0)) by rw [hW0]; exact heap_alloc_new w _)
  have I0 := Lib.hid (hI.below B0.out)
  have HI := Lib.hid hI
  obtain ⟨sp, c, hrn, _, _, d3, ⟨_, _, y3⟩, hs⟩ := I0.out.cells hn
  obtain ⟨c0, c1, _, _⟩ := two_cells I0.out.head
  obtain ⟨⟨a1, a2, a3⟩, _⟩ := three_cells b0.out
  have hl := cell_lt c0
  have hlg := cell_lt d3
  have hla := cell_lt a1
  have CF : Hid (∀ W, RowKit.Below W0.heap.size W0 W → Calls Tryd.prog 30 #[.slice sp R[n]!.2.length c, .int .i64 x1] W fun e w' => e = .returned (.tuple #[aggV (fndV R[n]!.2 x1), .bool (hasK R[n]!.2 x1)]) ∧ RowKit.Below W.heap.size W w') := fun W hb => (rfind_call _ _ x1 W (hs.below hb)).mono fun e w' ⟨h1, h2⟩ => ⟨h1, h2.below⟩
  unfold aggV at CF
  rw [hhas] at CF
  generalize fndV R[n]!.2 x1 = fv at *
  obtain ⟨f1, f2, f3⟩ := fv
  dsimp only at CF
  have CK : Hid (∀ W, Calls Tryd.prog 28 #[.agg #[.int .i64 x1, .int .i64 x2, .int .i64 x3]] W fun e w' => e = .returned (.int .i64 (chk (x1, x2, x3) : Nat)) ∧ Gr W w') := fun W => rcheck_any (x1, x2, x3) W
  have hcn : (((chk (x1, x2, x3) : Nat) : Int) != 0) = true := by simp; exact hc
  generalize chk (x1, x2, x3) = cn at *
  obtain ⟨ll, hlle⟩ : ∃ ll, ll = R[n]!.2.length := ⟨_, rfl⟩
  rw [← hlle] at d3 CF
  clear h hI hs hrn hlle hhas
  go_enter Tryd.func20, Tryd.ntmps20
  go_wp2_with fail
  rw [← hW0]
  refine (HH.out _ B0.out).mono ?_
  rintro e w1 ⟨rfl, rfl⟩
  clear hW0
  go_wp2_with fail
  refine wp_region_held_drew (S := (fun w' => Below (W0).heap.size (W0) w' ∧ ∀ b_1 o, b_1 < (W0).heap.size → w'.cell? ⟨b_1, o, none⟩ = (W0).cell? ⟨b_1, o, none⟩)) (by kernel_rfl) (keep0 _) (fun hHeld => ?_)
  (refine wpAnyH_take (i := 0) (v := ?_) rfl (by kernel_rfl) (by kernel_rfl) (by kernel_rfl) (fun _ _ _ h => h) (Or.inl ⟨by rfl, ?rt⟩) (by assumption) ?_; case rt => (intro w hSw; (try dsimp only at hSw); go_simp; (try with_reducible rfl))); (try simp only [Act.put, List.getElem_toArray, List.getElem_cons_succ, List.getElem_cons_zero, List.setIfInBounds_toArray, List.set_cons_zero, List.set_cons_succ])
  (refine wpAnyH_take (i := 1) (v := ?_) rfl (by kernel_rfl) (by kernel_rfl) (by kernel_rfl) (fun _ _ _ h => h) (Or.inl ⟨by rfl, ?rt⟩) (by assumption) ?_; case rt => (intro w hSw; (try dsimp only at hSw); go_simp; (try with_reducible rfl))); (try simp only [Act.put, List.getElem_toArray, List.getElem_cons_succ, List.getElem_cons_zero, List.setIfInBounds_toArray, List.set_cons_zero, List.set_cons_succ])
  (refine wpAnyH_take (i := 2) (v := ?_) rfl (by kernel_rfl) (by kernel_rfl) (by kernel_rfl) (fun _ _ _ h => h) (Or.inl ⟨by rfl, ?rt⟩) (by assumption) ?_; case rt => (intro w hSw; (try dsimp only at hSw); go_simp; (try with_reducible rfl))); (try simp only [Act.put, List.getElem_toArray, List.getElem_cons_succ, List.getElem_cons_zero, List.setIfInBounds_toArray, List.set_cons_zero, List.set_cons_succ])
  (refine wpAnyH_take (i := 3) (v := ?_) rfl (by kernel_rfl) (by kernel_rfl) (by kernel_rfl) (fun _ _ _ h => h) (Or.inl ⟨by rfl, ?rt⟩) (by assumption) ?_; case rt => (intro w hSw; (try dsimp only at hSw); go_simp; (try with_reducible rfl))); (try simp only [Act.put, List.getElem_toArray, List.getElem_cons_succ, List.getElem_cons_zero, List.setIfInBounds_toArray, List.set_cons_zero, List.set_cons_succ])
  (refine wpAnyH_take (i := 4) (v := ?_) rfl (by kernel_rfl) (by kernel_rfl) (by kernel_rfl) (fun _ _ _ h => h) (Or.inl ⟨by rfl, ?rt⟩) (by assumption) ?_; case rt => (intro w hSw; (try dsimp only at hSw); go_simp; (try with_reducible rfl))); (try simp only [Act.put, List.getElem_toArray, List.getElem_cons_succ, List.getElem_cons_zero, List.setIfInBounds_toArray, List.set_cons_zero, List.set_cons_succ])
  (refine wpAnyH_take (i := 5) (v := ?_) rfl (by kernel_rfl) (by kernel_rfl) (by kernel_rfl) (fun _ _ _ h => h) (Or.inl ⟨by rfl, ?rt⟩) (by assumption) ?_; case rt => (intro w hSw; (try dsimp only at hSw); go_simp; (try with_reducible rfl))); (try simp only [Act.put, List.getElem_toArray, List.getElem_cons_succ, List.getElem_cons_zero, List.setIfInBounds_toArray, List.set_cons_zero, List.set_cons_succ])
  (refine wpAnyH_take (i := 6) (v := ?_) rfl (by kernel_rfl) (by kernel_rfl) (by kernel_rfl) (fun _ _ _ h => h) (Or.inl ⟨by rfl, ?rt⟩) (by assumption) ?_; case rt => (intro w hSw; (try dsimp only at hSw); go_simp; (try with_reducible rfl))); (try simp only [Act.put, List.getElem_toArray, List.getElem_cons_succ, List.getElem_cons_zero, List.setIfInBounds_toArray, List.set_cons_zero, List.set_cons_succ])
  (refine wpAnyH_take (i := 7) (v := ?_) rfl (by kernel_rfl) (by kernel_rfl) (by kernel_rfl) (fun _ _ _ h => h) (Or.inl ⟨by rfl, ?rt⟩) (by assumption) ?_; case rt => (intro w hSw; (try dsimp only at hSw); go_simp; (try with_reducible rfl))); (try simp only [Act.put, List.getElem_toArray, List.getElem_cons_succ, List.getElem_cons_zero, List.setIfInBounds_toArray, List.set_cons_zero, List.set_cons_succ])
  (refine wpAnyH_take (i := 8) (v := ?_) rfl (by kernel_rfl) (by kernel_rfl) (by kernel_rfl) (fun _ _ _ h => h) (Or.inl ⟨by rfl, ?rt⟩) (by assumption) ?_; case rt => (intro w hSw; (try dsimp only at hSw); go_simp; (try with_reducible rfl))); (try simp only [Act.put, List.getElem_toArray, List.getElem_cons_succ, List.getElem_cons_zero, List.setIfInBounds_toArray, List.set_cons_zero, List.set_cons_succ])
  (refine wpAnyH_take (i := 9) (v := ?_) rfl (by kernel_rfl) (by kernel_rfl) (by kernel_rfl) (fun _ _ _ h => h) (Or.inl ⟨by rfl, ?rt⟩) (by assumption) ?_; case rt => (intro w hSw; (try dsimp only at hSw); go_simp; (try with_reducible rfl))); (try simp only [Act.put, List.getElem_toArray, List.getElem_cons_succ, List.getElem_cons_zero, List.setIfInBounds_toArray, List.set_cons_zero, List.set_cons_succ])
  refine wpAnyH_ready (rs := [10, 14]) (by kernel_rfl) (by simp) ?_; refine (AllReadyH.cons rfl (fun K hK => ?_) (AllReadyH.cons rfl (fun K hK => ?_) AllReadyH.nil))
  · go_simp; refine (CF.out _ (And.left (by assumption))).mono ?_; rintro e w1 ⟨rfl, hb1⟩; refine hK.out _ _ (keepB (by assumption) hb1) (fun hHeld => ?_); clear hK K; (try simp only [Act.put, List.getElem_toArray, List.getElem_cons_succ, List.getElem_cons_zero, List.setIfInBounds_toArray, List.set_cons_zero, List.set_cons_succ]); have BC := Lib.hid hb1; clear hb1; have hC := hHeld
    (refine wpAnyH_take (i := 11) (v := ?_) rfl (by kernel_rfl) (by kernel_rfl) (by kernel_rfl) (fun _ _ _ h => h) (Or.inl ⟨by rfl, ?rt⟩) (by assumption) ?_; case rt => (intro w hSw; (try dsimp only at hSw); go_simp; (try with_reducible rfl))); (try simp only [Act.put, List.getElem_toArray, List.getElem_cons_succ, List.getElem_cons_zero, List.setIfInBounds_toArray, List.set_cons_zero, List.set_cons_succ])
    (refine wpAnyH_take (i := 12) (v := ?_) rfl (by kernel_rfl) (by kernel_rfl) (by kernel_rfl) (fun _ _ _ h => h) (Or.inl ⟨by rfl, ?rt⟩) (by assumption) ?_; case rt => (intro w hSw; (try dsimp only at hSw); go_simp; (try with_reducible rfl))); (try simp only [Act.put, List.getElem_toArray, List.getElem_cons_succ, List.getElem_cons_zero, List.setIfInBounds_toArray, List.set_cons_zero, List.set_cons_succ])
    (refine wpAnyH_take (i := 13) (v := ?_) rfl (by kernel_rfl) (by kernel_rfl) (by kernel_rfl) (fun _ _ _ h => h) (Or.inl ⟨by rfl, ?rt⟩) (by assumption) ?_; case rt => (intro w hSw; (try dsimp only at hSw); go_simp; (try with_reducible rfl))); (try simp only [Act.put, List.getElem_toArray, List.getElem_cons_succ, List.getElem_cons_zero, List.setIfInBounds_toArray, List.set_cons_zero, List.set_cons_succ])
    refine wpAnyH_ready (rs := [14]) (by kernel_rfl) (by simp) ?_; refine (AllReadyH.cons rfl (fun K hK => ?_) AllReadyH.nil)
    go_simp; refine hK.out _ _ (keepA (by assumption) _) (fun hHeld => ?_); clear hK K; (try simp only [Act.put, List.getElem_toArray, List.getElem_cons_succ, List.getElem_cons_zero, List.setIfInBounds_toArray, List.set_cons_zero, List.set_cons_succ])
    have hw1 : W0.heap.size ≤ w1.heap.size := BC.out.size
    refine wpAnyH_ready (rs := [15]) (by kernel_rfl) (by simp) ?_; refine (AllReadyH.cons rfl (fun K hK => ?_) AllReadyH.nil)
    go_simp; refine hK.out _ _ (keepA hC _) (fun hHeld => ?_); clear hK K; (try simp only [Act.put, List.getElem_toArray, List.getElem_cons_succ, List.getElem_cons_zero, List.setIfInBounds_toArray, List.set_cons_zero, List.set_cons_succ])
    (refine wpAnyH_take (i := 16) (v := ?_) rfl (by kernel_rfl) (by kernel_rfl) (by kernel_rfl) (fun _ _ _ h => h) (Or.inl ⟨by rfl, ?rt⟩) (by assumption) ?_; case rt => (intro w hSw; (try dsimp only at hSw); go_simp; (try with_reducible rfl))); (try simp only [Act.put, List.getElem_toArray, List.getElem_cons_succ, List.getElem_cons_zero, List.setIfInBounds_toArray, List.set_cons_zero, List.set_cons_succ])
    refine wpAnyH_done (by kernel_rfl) ?_ _
    have B3 := Lib.hid (Bt B0.out hHeld.1)
    obtain ⟨⟨a1, a2, a3⟩, _⟩ := three_cells (blk_below b0.out hHeld.1)
    have hla := cell_lt a1
    clear hHeld
    go_wp2_with fail
    refine (CK.out _).mono ?_
    rintro e w5 ⟨rfl, hg5⟩
    have B5 := Lib.hid (Bt B3.out hg5.below)
    clear hg5
    go_wp2
    go_ret
    exact ⟨rfl, B5.out⟩
  · go_simp; refine hK.out _ _ (keepA (by assumption) _) (fun hHeld => ?_); clear hK K; (try simp only [Act.put, List.getElem_toArray, List.getElem_cons_succ, List.getElem_cons_zero, List.setIfInBounds_toArray, List.set_cons_zero, List.set_cons_succ])
    have zb := heap_alloc_new W0.drew (.cells #[.int .i64 0, .int .i64 0, .int .i64 0] 41)
    refine wpAnyH_ready (rs := [10]) (by kernel_rfl) (by simp) ?_; refine (AllReadyH.cons rfl (fun K hK => ?_) AllReadyH.nil)
    go_simp; refine (CF.out _ (And.left (by assumption))).mono ?_; rintro e w1 ⟨rfl, hb1⟩; refine hK.out _ _ (keepB (by assumption) hb1) (fun hHeld => ?_); clear hK K; (try simp only [Act.put, List.getElem_toArray, List.getElem_cons_succ, List.getElem_cons_zero, List.setIfInBounds_toArray, List.set_cons_zero, List.set_cons_succ]); have BC := Lib.hid hb1; clear hb1
    have zb1 := blk_below zb BC.out
    obtain ⟨⟨z1, z2, z3⟩, zf1, zf2, zf3⟩ := three_cells (pa := W0.heap.size) zb1
    have hlz : W0.heap.size < w1.heap.size := cell_lt z1
    (refine wpAnyH_take (i := 11) (v := ?_) rfl (by kernel_rfl) (by kernel_rfl) (by kernel_rfl) (fun _ _ _ h => h) (Or.inl ⟨by rfl, ?rt⟩) (by assumption) ?_; case rt => (intro w hSw; (try dsimp only at hSw); go_simp; (try with_reducible rfl))); (try simp only [Act.put, List.getElem_toArray, List.getElem_cons_succ, List.getElem_cons_zero, List.setIfInBounds_toArray, List.set_cons_zero, List.set_cons_succ])
    (refine wpAnyH_take (i := 12) (v := ?_) rfl (by kernel_rfl) (by kernel_rfl) (by kernel_rfl) (fun _ _ _ h => h) (Or.inl ⟨by rfl, ?rt⟩) (by assumption) ?_; case rt => (intro w hSw; (try dsimp only at hSw); go_simp; (try with_reducible rfl))); (try simp only [Act.put, List.getElem_toArray, List.getElem_cons_succ, List.getElem_cons_zero, List.setIfInBounds_toArray, List.set_cons_zero, List.set_cons_succ])
    (refine wpAnyH_take (i := 13) (v := ?_) rfl (by kernel_rfl) (by kernel_rfl) (by kernel_rfl) (fun _ _ _ h => h) (Or.inl ⟨by rfl, ?rt⟩) (by assumption) ?_; case rt => (intro w hSw; (try dsimp only at hSw); go_simp; (try with_reducible rfl))); (try simp only [Act.put, List.getElem_toArray, List.getElem_cons_succ, List.getElem_cons_zero, List.setIfInBounds_toArray, List.set_cons_zero, List.set_cons_succ])
    refine wpAnyH_ready (rs := [15]) (by kernel_rfl) (by simp) ?_; refine (AllReadyH.cons rfl (fun K hK => ?_) AllReadyH.nil)
    go_simp; refine hK.out _ _ (keepS3 (by assumption) (Nat.le_refl _) _ _ _) (fun hHeld => ?_); clear hK K; (try simp only [Act.put, List.getElem_toArray, List.getElem_cons_succ, List.getElem_cons_zero, List.setIfInBounds_toArray, List.set_cons_zero, List.set_cons_succ])
    (refine wpAnyH_take (i := 16) (v := ?_) rfl (by kernel_rfl) (by kernel_rfl) (by kernel_rfl) (fun _ _ _ h => h) (Or.inl ⟨by rfl, ?rt⟩) (by assumption) ?_; case rt => (intro w hSw; (try dsimp only at hSw); go_simp; (try with_reducible rfl))); (try simp only [Act.put, List.getElem_toArray, List.getElem_cons_succ, List.getElem_cons_zero, List.setIfInBounds_toArray, List.set_cons_zero, List.set_cons_succ])
    refine wpAnyH_done (by kernel_rfl) ?_ _
    clear zb zb1 z1 z2 z3 zf1 zf2 zf3 hlz
    have B3 := Lib.hid (Bt B0.out hHeld.1)
    obtain ⟨⟨a1, a2, a3⟩, _⟩ := three_cells (blk_below b0.out hHeld.1)
    have hla := cell_lt a1
    clear hHeld
    go_wp2_with fail
    refine (CK.out _).mono ?_
    rintro e w5 ⟨rfl, hg5⟩
    have B5 := Lib.hid (Bt B3.out hg5.below)
    clear hg5
    go_wp2
    go_ret
    exact ⟨rfl, B5.out⟩

set_option maxHeartbeats 4000000 in
set_option maxRecDepth 100000 in
theorem rset_yes (h : RefT w N pr q R) (n : Nat) (hn : n < R.length) (x1 x2 x3 : Int) (hhas : hasK R[n]!.2 x1 = true) (hc : chk (x1, x2, x3) = 0) (hR : RightV R[n]!.2) (hlen : R[n]!.2.length ≤ 1000) :
    Calls Tryd.prog 20 #[ptP pr, .int .i64 n, .agg #[.int .i64 x1, .int .i64 x2, .int .i64 x3]] w fun e w' => e = .returned (.int .i64 0) ∧ RefT w' (New N w w') pr q (R.set n (R[n].1, putV R[n]!.2 (x1, x2, x3))) ∧ Tch N w w' := by
  have HH : Hid (∀ W, RowKit.Below w.heap.size w W → Calls Tryd.prog 26 #[ptP pr, .int .i64 n] W fun e w' => e = .returned (.bool true) ∧ W = w') := fun W hb => by
    have := rhas_call (h.below hb) n
    rwa [decide_eq_true (show 0 ≤ (n : Int) ∧ (n : Int) < R.length from ⟨by omega, by omega⟩)] at this
  obtain ⟨g, cap, rows, N1, N2, hI, hc1, hc2⟩ := h.inside (by omega)
  obtain ⟨W0, hW0⟩ : ∃ W0, W0 = w.alloc (.cells #[.int .i64 x1, .int .i64 x2, .int .i64 x3] 41) := ⟨_, rfl⟩
  have B0 := Lib.hid (show RowKit.Below w.heap.size w W0 by rw [hW0]; exact Ba (Below.refl _ w) _)
  have b0 := Lib.hid (show W0.heap[w.heap.size]? = some (.cells #[.int .i64 x1, .int .i64 x2, .int .i64 x3] 41 (0, 0)) by rw [hW0]; exact heap_alloc_new w _)
  have I0 := Lib.hid (hI.below B0.out)
  have HI := Lib.hid hI
  obtain ⟨sp, c, hrn, _, _, d3, ⟨_, _, y3⟩, hs⟩ := I0.out.cells hn
  obtain ⟨c0, c1, _, _⟩ := two_cells I0.out.head
  obtain ⟨⟨a1, a2, a3⟩, _⟩ := three_cells b0.out
  have hl := cell_lt c0
  have hlg := cell_lt d3
  have hla := cell_lt a1
  have CF : Hid (∀ W, RowKit.Below W0.heap.size W0 W → Calls Tryd.prog 30 #[.slice sp R[n]!.2.length c, .int .i64 x1] W fun e w' => e = .returned (.tuple #[aggV (fndV R[n]!.2 x1), .bool (hasK R[n]!.2 x1)]) ∧ RowKit.Below W.heap.size W w') := fun W hb => (rfind_call _ _ x1 W (hs.below hb)).mono fun e w' ⟨h1, h2⟩ => ⟨h1, h2.below⟩
  unfold aggV at CF
  rw [hhas] at CF
  generalize fndV R[n]!.2 x1 = fv at *
  obtain ⟨f1, f2, f3⟩ := fv
  dsimp only at CF
  have CK : Hid (∀ W, Calls Tryd.prog 28 #[.agg #[.int .i64 x1, .int .i64 x2, .int .i64 x3]] W fun e w' => e = .returned (.int .i64 0) ∧ Gr W w') := fun W => by
    have := rcheck_any (x1, x2, x3) W
    rwa [hc] at this
  have CP : Hid (∀ W, RowKit.Below W0.heap.size W0 W → Calls Tryd.prog 31 #[.slice sp R[n]!.2.length c, .agg #[.int .i64 x1, .int .i64 x2, .int .i64 x3]] W fun e w' => (∃ v', e = .returned v' ∧ w'.ownsRow W.heap.size 41 3 v' (putV R[n]!.2 (x1, x2, x3)).length (flat encV (putV R[n]!.2 (x1, x2, x3)))) ∧ RowKit.Below W.heap.size W w') := fun W hb => rput_own _ _ x1 x2 x3 W (hs.below hb) hR hc hlen
  obtain ⟨pl, hpl⟩ : ∃ pl, pl = putV R[n]!.2 (x1, x2, x3) := ⟨_, rfl⟩
  rw [← hpl] at CP ⊢
  have HLT := Lib.hid HI.out.lt
  clear hpl hc hR hlen
  obtain ⟨ll, hlle⟩ : ∃ ll, ll = R[n]!.2.length := ⟨_, rfl⟩
  have HLL := Lib.hid hlle
  rw [← hlle] at d3 CF CP
  have HRN := Lib.hid hrn
  clear h hI hs hrn hlle hhas
  go_enter Tryd.func20, Tryd.ntmps20
  go_wp2_with fail
  rw [← hW0]
  refine (HH.out _ B0.out).mono ?_
  rintro e w1 ⟨rfl, rfl⟩
  clear hW0
  go_wp2_with fail
  refine wp_region_held_drew (S := (fun w' => Below (W0).heap.size (W0) w' ∧ ∀ b_1 o, b_1 < (W0).heap.size → w'.cell? ⟨b_1, o, none⟩ = (W0).cell? ⟨b_1, o, none⟩)) (by kernel_rfl) (keep0 _) (fun hHeld => ?_)
  (refine wpAnyH_take (i := 0) (v := ?_) rfl (by kernel_rfl) (by kernel_rfl) (by kernel_rfl) (fun _ _ _ h => h) (Or.inl ⟨by rfl, ?rt⟩) (by assumption) ?_; case rt => (intro w hSw; (try dsimp only at hSw); go_simp; (try with_reducible rfl))); (try simp only [Act.put, List.getElem_toArray, List.getElem_cons_succ, List.getElem_cons_zero, List.setIfInBounds_toArray, List.set_cons_zero, List.set_cons_succ])
  (refine wpAnyH_take (i := 1) (v := ?_) rfl (by kernel_rfl) (by kernel_rfl) (by kernel_rfl) (fun _ _ _ h => h) (Or.inl ⟨by rfl, ?rt⟩) (by assumption) ?_; case rt => (intro w hSw; (try dsimp only at hSw); go_simp; (try with_reducible rfl))); (try simp only [Act.put, List.getElem_toArray, List.getElem_cons_succ, List.getElem_cons_zero, List.setIfInBounds_toArray, List.set_cons_zero, List.set_cons_succ])
  (refine wpAnyH_take (i := 2) (v := ?_) rfl (by kernel_rfl) (by kernel_rfl) (by kernel_rfl) (fun _ _ _ h => h) (Or.inl ⟨by rfl, ?rt⟩) (by assumption) ?_; case rt => (intro w hSw; (try dsimp only at hSw); go_simp; (try with_reducible rfl))); (try simp only [Act.put, List.getElem_toArray, List.getElem_cons_succ, List.getElem_cons_zero, List.setIfInBounds_toArray, List.set_cons_zero, List.set_cons_succ])
  (refine wpAnyH_take (i := 3) (v := ?_) rfl (by kernel_rfl) (by kernel_rfl) (by kernel_rfl) (fun _ _ _ h => h) (Or.inl ⟨by rfl, ?rt⟩) (by assumption) ?_; case rt => (intro w hSw; (try dsimp only at hSw); go_simp; (try with_reducible rfl))); (try simp only [Act.put, List.getElem_toArray, List.getElem_cons_succ, List.getElem_cons_zero, List.setIfInBounds_toArray, List.set_cons_zero, List.set_cons_succ])
  (refine wpAnyH_take (i := 4) (v := ?_) rfl (by kernel_rfl) (by kernel_rfl) (by kernel_rfl) (fun _ _ _ h => h) (Or.inl ⟨by rfl, ?rt⟩) (by assumption) ?_; case rt => (intro w hSw; (try dsimp only at hSw); go_simp; (try with_reducible rfl))); (try simp only [Act.put, List.getElem_toArray, List.getElem_cons_succ, List.getElem_cons_zero, List.setIfInBounds_toArray, List.set_cons_zero, List.set_cons_succ])
  (refine wpAnyH_take (i := 5) (v := ?_) rfl (by kernel_rfl) (by kernel_rfl) (by kernel_rfl) (fun _ _ _ h => h) (Or.inl ⟨by rfl, ?rt⟩) (by assumption) ?_; case rt => (intro w hSw; (try dsimp only at hSw); go_simp; (try with_reducible rfl))); (try simp only [Act.put, List.getElem_toArray, List.getElem_cons_succ, List.getElem_cons_zero, List.setIfInBounds_toArray, List.set_cons_zero, List.set_cons_succ])
  (refine wpAnyH_take (i := 6) (v := ?_) rfl (by kernel_rfl) (by kernel_rfl) (by kernel_rfl) (fun _ _ _ h => h) (Or.inl ⟨by rfl, ?rt⟩) (by assumption) ?_; case rt => (intro w hSw; (try dsimp only at hSw); go_simp; (try with_reducible rfl))); (try simp only [Act.put, List.getElem_toArray, List.getElem_cons_succ, List.getElem_cons_zero, List.setIfInBounds_toArray, List.set_cons_zero, List.set_cons_succ])
  (refine wpAnyH_take (i := 7) (v := ?_) rfl (by kernel_rfl) (by kernel_rfl) (by kernel_rfl) (fun _ _ _ h => h) (Or.inl ⟨by rfl, ?rt⟩) (by assumption) ?_; case rt => (intro w hSw; (try dsimp only at hSw); go_simp; (try with_reducible rfl))); (try simp only [Act.put, List.getElem_toArray, List.getElem_cons_succ, List.getElem_cons_zero, List.setIfInBounds_toArray, List.set_cons_zero, List.set_cons_succ])
  (refine wpAnyH_take (i := 8) (v := ?_) rfl (by kernel_rfl) (by kernel_rfl) (by kernel_rfl) (fun _ _ _ h => h) (Or.inl ⟨by rfl, ?rt⟩) (by assumption) ?_; case rt => (intro w hSw; (try dsimp only at hSw); go_simp; (try with_reducible rfl))); (try simp only [Act.put, List.getElem_toArray, List.getElem_cons_succ, List.getElem_cons_zero, List.setIfInBounds_toArray, List.set_cons_zero, List.set_cons_succ])
  (refine wpAnyH_take (i := 9) (v := ?_) rfl (by kernel_rfl) (by kernel_rfl) (by kernel_rfl) (fun _ _ _ h => h) (Or.inl ⟨by rfl, ?rt⟩) (by assumption) ?_; case rt => (intro w hSw; (try dsimp only at hSw); go_simp; (try with_reducible rfl))); (try simp only [Act.put, List.getElem_toArray, List.getElem_cons_succ, List.getElem_cons_zero, List.setIfInBounds_toArray, List.set_cons_zero, List.set_cons_succ])
  refine wpAnyH_ready (rs := [10, 14]) (by kernel_rfl) (by simp) ?_; refine (AllReadyH.cons rfl (fun K hK => ?_) (AllReadyH.cons rfl (fun K hK => ?_) AllReadyH.nil))
  · go_simp; refine (CF.out _ (And.left (by assumption))).mono ?_; rintro e w1 ⟨rfl, hb1⟩; refine hK.out _ _ (keepB (by assumption) hb1) (fun hHeld => ?_); clear hK K; (try simp only [Act.put, List.getElem_toArray, List.getElem_cons_succ, List.getElem_cons_zero, List.setIfInBounds_toArray, List.set_cons_zero, List.set_cons_succ]); have BC := Lib.hid hb1; clear hb1; have hC := hHeld
    (refine wpAnyH_take (i := 11) (v := ?_) rfl (by kernel_rfl) (by kernel_rfl) (by kernel_rfl) (fun _ _ _ h => h) (Or.inl ⟨by rfl, ?rt⟩) (by assumption) ?_; case rt => (intro w hSw; (try dsimp only at hSw); go_simp; (try with_reducible rfl))); (try simp only [Act.put, List.getElem_toArray, List.getElem_cons_succ, List.getElem_cons_zero, List.setIfInBounds_toArray, List.set_cons_zero, List.set_cons_succ])
    (refine wpAnyH_take (i := 12) (v := ?_) rfl (by kernel_rfl) (by kernel_rfl) (by kernel_rfl) (fun _ _ _ h => h) (Or.inl ⟨by rfl, ?rt⟩) (by assumption) ?_; case rt => (intro w hSw; (try dsimp only at hSw); go_simp; (try with_reducible rfl))); (try simp only [Act.put, List.getElem_toArray, List.getElem_cons_succ, List.getElem_cons_zero, List.setIfInBounds_toArray, List.set_cons_zero, List.set_cons_succ])
    (refine wpAnyH_take (i := 13) (v := ?_) rfl (by kernel_rfl) (by kernel_rfl) (by kernel_rfl) (fun _ _ _ h => h) (Or.inl ⟨by rfl, ?rt⟩) (by assumption) ?_; case rt => (intro w hSw; (try dsimp only at hSw); go_simp; (try with_reducible rfl))); (try simp only [Act.put, List.getElem_toArray, List.getElem_cons_succ, List.getElem_cons_zero, List.setIfInBounds_toArray, List.set_cons_zero, List.set_cons_succ])
    refine wpAnyH_ready (rs := [14]) (by kernel_rfl) (by simp) ?_; refine (AllReadyH.cons rfl (fun K hK => ?_) AllReadyH.nil)
    go_simp; refine hK.out _ _ (keepA (by assumption) _) (fun hHeld => ?_); clear hK K; (try simp only [Act.put, List.getElem_toArray, List.getElem_cons_succ, List.getElem_cons_zero, List.setIfInBounds_toArray, List.set_cons_zero, List.set_cons_succ])
    have hw1 : W0.heap.size ≤ w1.heap.size := BC.out.size
    refine wpAnyH_ready (rs := [15]) (by kernel_rfl) (by simp) ?_; refine (AllReadyH.cons rfl (fun K hK => ?_) AllReadyH.nil)
    go_simp; refine hK.out _ _ (keepA hC _) (fun hHeld => ?_); clear hK K; (try simp only [Act.put, List.getElem_toArray, List.getElem_cons_succ, List.getElem_cons_zero, List.setIfInBounds_toArray, List.set_cons_zero, List.set_cons_succ])
    (refine wpAnyH_take (i := 16) (v := ?_) rfl (by kernel_rfl) (by kernel_rfl) (by kernel_rfl) (fun _ _ _ h => h) (Or.inl ⟨by rfl, ?rt⟩) (by assumption) ?_; case rt => (intro w hSw; (try dsimp only at hSw); go_simp; (try with_reducible rfl))); (try simp only [Act.put, List.getElem_toArray, List.getElem_cons_succ, List.getElem_cons_zero, List.setIfInBounds_toArray, List.set_cons_zero, List.set_cons_succ])
    refine wpAnyH_done (by kernel_rfl) ?_ _
    have K3 := Lib.hid hHeld.1
    obtain ⟨⟨a1, a2, a3⟩, _⟩ := three_cells (blk_below b0.out hHeld.1)
    have hla := cell_lt a1
    clear hHeld
    go_wp2_with fail
    refine (CK.out _).mono ?_
    rintro e w5 ⟨rfl, hg5⟩
    have K5 := Lib.hid (Bt K3.out hg5.below)
    clear hg5 a1 a2 a3 hla c0 c1 d3 y3 hl hlg
    have I5 := Lib.hid (I0.out.below K5.out)
    have b5 := Lib.hid (blk_below b0.out K5.out)
    obtain ⟨sp', c', hrn', _, _, d3, ⟨_, _, y3⟩, _⟩ := I5.out.cells hn
    have hsp : (sp', R[n]!.2.length, c') = (sp, R[n]!.2.length, c) := hrn'.symm.trans HRN.out
    simp only [Prod.mk.injEq, true_and] at hsp
    obtain ⟨rfl, rfl⟩ := hsp
    rw [← HLL.out] at d3
    obtain ⟨c0, c1, _, _⟩ := two_cells I5.out.head
    obtain ⟨⟨a1, a2, a3⟩, _⟩ := three_cells b5.out
    have hl := cell_lt c0
    have hlg := cell_lt d3
    have hla := cell_lt a1
    clear hrn'
    go_wp2_with fail
    go_region_law (go_simp; go_at_call 31; refine (CP.out _ (K5.out.drew)).mono ?_; rintro e w6 ⟨⟨vp, rfl, hop⟩, hb6⟩; have BD6 := Lib.hid (Bt (Bd (Below.refl _ w5)) hb6); have I6 := Lib.hid (I5.out.below BD6.out); have OP := Lib.hid hop; obtain ⟨pp, cp, rfl, _, _, _⟩ := row_val hop; have c16 := Bc BD6.out hl c1; have d36 := Bc BD6.out hlg d3; have y36 := Bf BD6.out hlg y3; have hl6 := Bl BD6.out hl; have hlg6 := Bl BD6.out hlg; clear hop hb6)
    all_goals
      have HSN := SlN.of lenV OP.out rfl
      have HSN2 : SlN (fun b => w.heap.size ≤ b ∧ b < w6.heap.size) encV w6 (slV (pp, pl.length, cp)) pl := by
        obtain ⟨p1, q1, e1, e2, e3, e4⟩ := HSN
        exact ⟨p1, q1, e1, e2, e3, fun hh => by
          obtain ⟨gg, oo, e5, e6, e7, e8⟩ := e4 hh
          exact ⟨gg, oo, e5, e6, ⟨Nat.le_trans (Nat.le_trans B0.out.size K5.out.size) e7, e6⟩, e8⟩⟩
      obtain ⟨P7, T7⟩ := I6.out.set1 HLT.out n hn (pp, pl.length, cp) pl HSN2
      have B6 := Lib.hid (Bt B0.out (K5.out.trans (BD6.out.mono K5.out.size)))
      go_wp2
      go_ret
      exact ⟨rfl, P7.mono (fun b e => e.imp id (fun e => ⟨e.1, by simpa using e.2⟩)) (New.lt HLT.out (by have := B6.out.size; simpa using this)), (Tch.of B6.out).more T7⟩
  · go_simp; refine hK.out _ _ (keepA (by assumption) _) (fun hHeld => ?_); clear hK K; (try simp only [Act.put, List.getElem_toArray, List.getElem_cons_succ, List.getElem_cons_zero, List.setIfInBounds_toArray, List.set_cons_zero, List.set_cons_succ])
    have zb := heap_alloc_new W0.drew (.cells #[.int .i64 0, .int .i64 0, .int .i64 0] 41)
    refine wpAnyH_ready (rs := [10]) (by kernel_rfl) (by simp) ?_; refine (AllReadyH.cons rfl (fun K hK => ?_) AllReadyH.nil)
    go_simp; refine (CF.out _ (And.left (by assumption))).mono ?_; rintro e w1 ⟨rfl, hb1⟩; refine hK.out _ _ (keepB (by assumption) hb1) (fun hHeld => ?_); clear hK K; (try simp only [Act.put, List.getElem_toArray, List.getElem_cons_succ, List.getElem_cons_zero, List.setIfInBounds_toArray, List.set_cons_zero, List.set_cons_succ]); have BC := Lib.hid hb1; clear hb1
    have zb1 := blk_below zb BC.out
    obtain ⟨⟨z1, z2, z3⟩, zf1, zf2, zf3⟩ := three_cells (pa := W0.heap.size) zb1
    have hlz : W0.heap.size < w1.heap.size := cell_lt z1
    (refine wpAnyH_take (i := 11) (v := ?_) rfl (by kernel_rfl) (by kernel_rfl) (by kernel_rfl) (fun _ _ _ h => h) (Or.inl ⟨by rfl, ?rt⟩) (by assumption) ?_; case rt => (intro w hSw; (try dsimp only at hSw); go_simp; (try with_reducible rfl))); (try simp only [Act.put, List.getElem_toArray, List.getElem_cons_succ, List.getElem_cons_zero, List.setIfInBounds_toArray, List.set_cons_zero, List.set_cons_succ])
    (refine wpAnyH_take (i := 12) (v := ?_) rfl (by kernel_rfl) (by kernel_rfl) (by kernel_rfl) (fun _ _ _ h => h) (Or.inl ⟨by rfl, ?rt⟩) (by assumption) ?_; case rt => (intro w hSw; (try dsimp only at hSw); go_simp; (try with_reducible rfl))); (try simp only [Act.put, List.getElem_toArray, List.getElem_cons_succ, List.getElem_cons_zero, List.setIfInBounds_toArray, List.set_cons_zero, List.set_cons_succ])
    (refine wpAnyH_take (i := 13) (v := ?_) rfl (by kernel_rfl) (by kernel_rfl) (by kernel_rfl) (fun _ _ _ h => h) (Or.inl ⟨by rfl, ?rt⟩) (by assumption) ?_; case rt => (intro w hSw; (try dsimp only at hSw); go_simp; (try with_reducible rfl))); (try simp only [Act.put, List.getElem_toArray, List.getElem_cons_succ, List.getElem_cons_zero, List.setIfInBounds_toArray, List.set_cons_zero, List.set_cons_succ])
    refine wpAnyH_ready (rs := [15]) (by kernel_rfl) (by simp) ?_; refine (AllReadyH.cons rfl (fun K hK => ?_) AllReadyH.nil)
    go_simp; refine hK.out _ _ (keepS3 (by assumption) (Nat.le_refl _) _ _ _) (fun hHeld => ?_); clear hK K; (try simp only [Act.put, List.getElem_toArray, List.getElem_cons_succ, List.getElem_cons_zero, List.setIfInBounds_toArray, List.set_cons_zero, List.set_cons_succ])
    (refine wpAnyH_take (i := 16) (v := ?_) rfl (by kernel_rfl) (by kernel_rfl) (by kernel_rfl) (fun _ _ _ h => h) (Or.inl ⟨by rfl, ?rt⟩) (by assumption) ?_; case rt => (intro w hSw; (try dsimp only at hSw); go_simp; (try with_reducible rfl))); (try simp only [Act.put, List.getElem_toArray, List.getElem_cons_succ, List.getElem_cons_zero, List.setIfInBounds_toArray, List.set_cons_zero, List.set_cons_succ])
    refine wpAnyH_done (by kernel_rfl) ?_ _
    clear zb zb1 z1 z2 z3 zf1 zf2 zf3 hlz
    have K3 := Lib.hid hHeld.1
    obtain ⟨⟨a1, a2, a3⟩, _⟩ := three_cells (blk_below b0.out hHeld.1)
    have hla := cell_lt a1
    clear hHeld
    go_wp2_with fail
    refine (CK.out _).mono ?_
    rintro e w5 ⟨rfl, hg5⟩
    have K5 := Lib.hid (Bt K3.out hg5.below)
    clear hg5 a1 a2 a3 hla c0 c1 d3 y3 hl hlg
    have I5 := Lib.hid (I0.out.below K5.out)
    have b5 := Lib.hid (blk_below b0.out K5.out)
    obtain ⟨sp', c', hrn', _, _, d3, ⟨_, _, y3⟩, _⟩ := I5.out.cells hn
    have hsp : (sp', R[n]!.2.length, c') = (sp, R[n]!.2.length, c) := hrn'.symm.trans HRN.out
    simp only [Prod.mk.injEq, true_and] at hsp
    obtain ⟨rfl, rfl⟩ := hsp
    rw [← HLL.out] at d3
    obtain ⟨c0, c1, _, _⟩ := two_cells I5.out.head
    obtain ⟨⟨a1, a2, a3⟩, _⟩ := three_cells b5.out
    have hl := cell_lt c0
    have hlg := cell_lt d3
    have hla := cell_lt a1
    clear hrn'
    go_wp2_with fail
    go_region_law (go_simp; go_at_call 31; refine (CP.out _ (K5.out.drew)).mono ?_; rintro e w6 ⟨⟨vp, rfl, hop⟩, hb6⟩; have BD6 := Lib.hid (Bt (Bd (Below.refl _ w5)) hb6); have I6 := Lib.hid (I5.out.below BD6.out); have OP := Lib.hid hop; obtain ⟨pp, cp, rfl, _, _, _⟩ := row_val hop; have c16 := Bc BD6.out hl c1; have d36 := Bc BD6.out hlg d3; have y36 := Bf BD6.out hlg y3; have hl6 := Bl BD6.out hl; have hlg6 := Bl BD6.out hlg; clear hop hb6)
    all_goals
      have HSN := SlN.of lenV OP.out rfl
      have HSN2 : SlN (fun b => w.heap.size ≤ b ∧ b < w6.heap.size) encV w6 (slV (pp, pl.length, cp)) pl := by
        obtain ⟨p1, q1, e1, e2, e3, e4⟩ := HSN
        exact ⟨p1, q1, e1, e2, e3, fun hh => by
          obtain ⟨gg, oo, e5, e6, e7, e8⟩ := e4 hh
          exact ⟨gg, oo, e5, e6, ⟨Nat.le_trans (Nat.le_trans B0.out.size K5.out.size) e7, e6⟩, e8⟩⟩
      obtain ⟨P7, T7⟩ := I6.out.set1 HLT.out n hn (pp, pl.length, cp) pl HSN2
      have B6 := Lib.hid (Bt B0.out (K5.out.trans (BD6.out.mono K5.out.size)))
      go_wp2
      go_ret
      exact ⟨rfl, P7.mono (fun b e => e.imp id (fun e => ⟨e.1, by simpa using e.2⟩)) (New.lt HLT.out (by have := B6.out.size; simpa using this)), (Tch.of B6.out).more T7⟩
end
end Go.Proofs.YtknfmjjlfhfocaaDoor
