/-
  The reference's Release, of a handle that lives.
-/
import Derived.Test.YthodmicoejnfaaaDoorRc
namespace Go.Proofs.YthodmicoejnfaaaDoor
set_option linter.unusedSimpArgs false
set_option linter.unusedVariables false
open Go.RowKit Go.Sort Go.Lib Go.Shelf

section
variable {pa : Nat} {S : List Slt} {Fr : List Int} {M : Nat → Prop} {w : World}

set_option maxHeartbeats 2000000 in
set_option maxRecDepth 100000 in
theorem rel_last (hp : PoolAt 37 w M pa S Fr) (i : Int) (hl : livesP S (i, 1073741824) = true) :
    Calls Tryd.prog 37 #[.pointer (some ⟨pa, 0, none⟩), .agg #[.int .i64 i, .int .i64 1073741824]] w fun e w' => e = .returned (.int .i64 0) ∧
      PoolAt 37 w' (New M w w') pa (freeS S (i, 1073741824)) (freeF Fr (i, 1073741824)) ∧ Tch M w w' := by
  have hL := Lib.hid (rlives_call (hp.below (Ba (Below.refl _ w) (.cells #[.int .i64 i, .int .i64 1073741824] 40))) i 1073741824)
  rw [hl] at hL
  obtain ⟨h1, h2, h3⟩ := livesP_iff.1 hl
  dsimp only at h1 h2 h3
  obtain ⟨n, rfl⟩ : ∃ n : Nat, i = n := ⟨i.toNat, by omega⟩
  have hn : n < S.length := by omega
  rw [Int.toNat_natCast] at h3
  unfold freeS freeF
  dsimp only
  rw [if_pos rfl, if_pos rfl, Int.toNat_natCast]
  have HX := Lib.hid (flat_set1 S n hn false)
  rw [h3] at HX
  obtain ⟨vs, vf, hi⟩ := hp.is
  obtain ⟨ps, cs, rfl, a1, a2, a3⟩ := row_val hi.2.2.1.1
  obtain ⟨gs, rfl, hgs, og⟩ := a3 (by omega)
  unfold maxLen at a2
  have hpl := hi.lt
  have HI := Lib.hid hi
  have hne : gs ≠ pa := by
    obtain ⟨c, hc⟩ := row_type hi.2.2.1.1 (g := gs) rfl
    exact type_apart hc hi.1 (by decide)
  clear hi og a3 h1 h3 hl hp
  go_enter Tryd.func37, Tryd.ntmps37
  go_wp2_with (go_at_call 19; refine hL.out.mono ?_; rintro e w1 ⟨rfl, hb1⟩; have B1 := Lib.hid (Bt (Ba (Below.refl _ w) _) hb1); have BX := Lib.hid (blk_below (heap_alloc_new w (.cells #[.int .i64 n, .int .i64 1073741824] 40)) hb1); obtain ⟨x0, x1, _, _⟩ := two_cells BX.out; have P1 := Lib.hid (HI.out.below B1.out); obtain ⟨k0, _, _, _⟩ := P1.out.cells; have hlx := Lib.hid (cell_lt x0); clear hb1)
  have hH : gs ≠ w.heap.size := by omega
  have y1 := (row_cellsS P1.out.2.2.1.1 rfl n hn).2
  have f1 := P1.out.2.2.1.1.frozenAt (n * 2 + 1)
  generalize S[n]!.2 = gb at y1
  go_region_held3 (fun w' => w'.cell? ⟨pa, 0, none⟩ = some (.slice (some ⟨gs, 0, none⟩) S.length cs) ∧ w'.cell? ⟨w.heap.size, 0, none⟩ = some (.int .i64 n) ∧ w'.cell? ⟨w.heap.size, 1, none⟩ = some (.int .i64 1073741824)) (first | exact ⟨k0, x0, x1⟩ | go_keep) (fail)
  obtain ⟨P2, t2⟩ := P1.out.cell (by decide) (n * 2 + 1) (.bool false) HX.out (by simp)
  have BX2 := blk_far BX.out (p := ⟨gs, n * 2 + 1, none⟩) (Ne.symm hH) (.bool false)
  obtain ⟨z0, z1, _, _⟩ := two_cells BX2
  have P3 := Lib.hid P2
  have T3 := Lib.hid t2
  clear P2 t2 BX2
  go_wp2
  go_ret
  exact ⟨rfl, P3.out.at.mono (fun b h => .inl h), ((Tch.of B1.out).more T3.out).more (Tch.of (Bd (Below.refl _ _)))⟩

set_option maxHeartbeats 2000000 in
set_option maxRecDepth 100000 in
theorem rel_more (hp : PoolAt 37 w M pa S Fr) (r : Right S Fr) (i g : Int) (hl : livesP S (i, g) = true) (hg : ¬ g = 1073741824) :
    Calls Tryd.prog 37 #[.pointer (some ⟨pa, 0, none⟩), .agg #[.int .i64 i, .int .i64 g]] w fun e w' => e = .returned (.int .i64 0) ∧
      PoolAt 37 w' (New M w w') pa (freeS S (i, g)) (freeF Fr (i, g)) ∧ Tch M w w' := by
  have hL := Lib.hid (rlives_call (hp.below (Ba (Below.refl _ w) (.cells #[.int .i64 i, .int .i64 g] 40))) i g)
  rw [hl] at hL
  obtain ⟨h1, h2, h3⟩ := livesP_iff.1 hl
  dsimp only at h1 h2 h3
  obtain ⟨n, rfl⟩ : ∃ n : Nat, i = n := ⟨i.toNat, by omega⟩
  have hn : n < S.length := by omega
  rw [Int.toNat_natCast] at h3
  have hgen := r.gen n hn
  rw [h3] at hgen
  obtain ⟨hg1, hg2⟩ := hgen
  dsimp only at hg1 hg2
  have hfl := r.freeLen
  have hgz : g < 1073741824 := by omega
  unfold freeS freeF
  dsimp only
  rw [if_neg hg, if_neg hg, Int.toNat_natCast]
  have HX := Lib.hid (flat_set1 S n hn false)
  rw [h3] at HX
  obtain ⟨vs, vf, hi⟩ := hp.is
  obtain ⟨ps, cs, rfl, a1, a2, a3⟩ := row_val hi.2.2.1.1
  obtain ⟨pf, cf, rfl, b1, b2, b3⟩ := row_val hi.2.2.2.1
  obtain ⟨gs, rfl, hgs, og⟩ := a3 (by omega)
  unfold maxLen at a2 b2
  have hpl := hi.lt
  have HI := Lib.hid hi
  have hne : gs ≠ pa := by
    obtain ⟨c, hc⟩ := row_type hi.2.2.1.1 (g := gs) rfl
    exact type_apart hc hi.1 (by decide)
  clear hi og a3 b3 h1 h3 hl hp r hg
  go_enter Tryd.func37, Tryd.ntmps37
  go_wp2_with (go_at_call 19; refine hL.out.mono ?_; rintro e w1 ⟨rfl, hb1⟩; have B1 := Lib.hid (Bt (Ba (Below.refl _ w) _) hb1); have BX := Lib.hid (blk_below (heap_alloc_new w (.cells #[.int .i64 n, .int .i64 g] 40)) hb1); obtain ⟨x0, x1, _, _⟩ := two_cells BX.out; have P1 := Lib.hid (HI.out.below B1.out); obtain ⟨k0, _, _, _⟩ := P1.out.cells; have hlx := Lib.hid (cell_lt x0); clear hb1)
  have hH : gs ≠ w.heap.size := by omega
  have hHp : w.heap.size ≠ pa := by omega
  have y1 := (row_cellsS P1.out.2.2.1.1 rfl n hn).2
  have f1 := P1.out.2.2.1.1.frozenAt (n * 2 + 1)
  generalize S[n]!.2 = gb at y1
  go_region_held3 (fun w' => w'.cell? ⟨pa, 0, none⟩ = some (.slice (some ⟨gs, 0, none⟩) S.length cs) ∧ w'.cell? ⟨w.heap.size, 0, none⟩ = some (.int .i64 n) ∧ w'.cell? ⟨w.heap.size, 1, none⟩ = some (.int .i64 g)) (first | exact ⟨k0, x0, x1⟩ | go_keep) (fail)
  obtain ⟨P2, t2⟩ := P1.out.cell (by decide) (n * 2 + 1) (.bool false) HX.out (by simp)
  have BX2 := blk_far BX.out (p := ⟨gs, n * 2 + 1, none⟩) (Ne.symm hH) (.bool false)
  obtain ⟨W2, hW2⟩ : ∃ W2, W2 = (w1.setCell ⟨gs, n * 2 + 1, none⟩ (.bool false)).drew := ⟨_, rfl⟩
  have P3 := Lib.hid (show PoolIs 37 W2 M pa _ _ _ _ by rw [hW2]; exact P2)
  have T3 := Lib.hid (show Tch M w W2 by rw [hW2]; exact ((Tch.of B1.out).more t2).more (Tch.of (Bd (Below.refl _ _))))
  have BX3 := Lib.hid (show W2.heap[w.heap.size]? = some (.cells #[.int .i64 n, .int .i64 g] 40) by rw [hW2]; exact BX2)
  rw [← hW2]
  clear P2 t2 BX2 hW2 k0 x0 x1 y1 f1
  obtain ⟨k0, _, _, _⟩ := P3.out.cells
  obtain ⟨x0, x1, _, _⟩ := two_cells BX3.out
  have hn2 : n < (S.set n (g, false)).length := by simpa using hn
  have hq : W2.ownsRow 0 63 2 (.slice (some ⟨gs, 0, none⟩) S.length cs) S.length (flat encS (S.set n (g, false))) := by
    have := P3.out.2.2.1.1
    rwa [List.length_set] at this
  have y0 := (row_cellsS hq (by simp) n hn2).1
  have f0 := hq.frozenAt (n * 2)
  clear hq
  generalize (S.set n (g, false))[n]!.1 = ga at y0
  have hwr : IntKind.i64.wrap (g + 1) = g + 1 := IntWalk.i64_in _ (by omega)
  go_wp2_with fail
  go_region_held3 (fun w' => w'.cell? ⟨pa, 0, none⟩ = some (.slice (some ⟨gs, 0, none⟩) S.length cs) ∧ w'.cell? ⟨w.heap.size, 0, none⟩ = some (.int .i64 n) ∧ w'.cell? ⟨w.heap.size, 1, none⟩ = some (.int .i64 g)) (first | exact ⟨k0, x0, x1⟩ | go_keep) (fail)
  have HY := flat_set0 (S.set n (g, false)) n hn2 (g + 1)
  rw [set_get S n n _ hn, if_pos rfl, List.set_set] at HY
  obtain ⟨P4, t4⟩ := P3.out.cell (by decide) (n * 2) (.int .i64 (g + 1)) HY (by simp)
  have BX4 := blk_far BX3.out (p := ⟨gs, n * 2, none⟩) (Ne.symm hH) (.int .i64 (g + 1))
  obtain ⟨W3, hW3⟩ : ∃ W3, W3 = (W2.setCell ⟨gs, n * 2, none⟩ (.int .i64 (g + 1))).drew := ⟨_, rfl⟩
  have P5 := Lib.hid (show PoolIs 37 W3 M pa _ _ _ _ by rw [hW3]; exact P4)
  have T5 := Lib.hid (show Tch M w W3 by rw [hW3]; exact (T3.out.more t4).more (Tch.of (Bd (Below.refl _ _))))
  have BX5 := Lib.hid (show W3.heap[w.heap.size]? = some (.cells #[.int .i64 n, .int .i64 g] 40) by rw [hW3]; exact BX4)
  rw [← hW3]
  clear P4 t4 BX4 hW3 k0 x0 x1 y0 f0 hwr HY
  obtain ⟨_, k1, _, f1⟩ := P5.out.cells
  obtain ⟨x0, x1, _, _⟩ := two_cells BX5.out
  have hp3 := P5.out.lt
  have B6 := Lib.hid (Ba (Bd (Below.refl _ W3)) (.cells #[.int .i64 n] 3))
  have P6 := Lib.hid (P5.out.below B6.out)
  have S6 := Lib.hid (sl_lit (enc := encI) (w := W3.drew) (cs := #[.int .i64 n]) (t := 3) (b := W3.heap.size) [(n : Int)] rfl rfl (by unfold maxLen; simp))
  go_wp2_with fail
  go_region_law (refine step_app2 apI rfl (.tmp 35) (.tmp 38) rfl 0 (by rfl) (by rfl) P6.out.2.2.2.1 rfl S6.out (by simp; omega) (Nat.zero_le _) ?_; intro v4 w4 hown4 hgrow4 hat4 _; obtain ⟨p4, c4, rfl, _, _, _⟩ := row_val hown4; have hrow4 := Lib.hid (row_grown P6.out.2.2.2.2 hown4 hgrow4 hat4); have G4 := Lib.hid (P6.out.grown1 (by decide) hgrow4); obtain ⟨_, z0, _, z1⟩ := two_cells G4.out.1; clear hown4 hgrow4 hat4)
  all_goals
    have hm : ∀ b, New M (W3.drew.alloc (.cells #[.int .i64 n] 3)) w4 b → New M w w4 b := fun b e => e.elim .inl (fun e => .inr ⟨by have := T5.out.size; have := B6.out.size; omega, e.2⟩)
    obtain ⟨P7, t7⟩ := pool_put1 (T := 37) (by decide) (by decide) G4.out.1 (.inl P5.out.2.1 : New M w w4 pa) (G4.out.2.mono (fun b h => .inl h)) (hrow4.out.1.mono hm)
    have hlenS : (Fr ++ [(n : Int)]).length = Fr.length + 1 := by simp
    rw [hlenS] at P7 t7
    have T7 := ((T5.out.more (Tch.of (M := M) B6.out)).more hrow4.out.2).trans t7
    clear z0 z1 hlenS
    go_wp2
    go_ret
    exact ⟨rfl, P7.at.mono (New.mono (by simp)), T7⟩
theorem rel_call (hp : PoolAt 37 w M pa S Fr) (r : Right S Fr) (i g : Int) (hl : livesP S (i, g) = true) :
    Calls Tryd.prog 37 #[.pointer (some ⟨pa, 0, none⟩), .agg #[.int .i64 i, .int .i64 g]] w fun e w' => e = .returned (.int .i64 0) ∧ PoolAt 37 w' (New M w w') pa (freeS S (i, g)) (freeF Fr (i, g)) ∧ Tch M w w' := by
  by_cases hg : g = 1073741824
  · subst hg
    exact rel_last hp i hl
  · exact rel_more hp r i g hl hg
end
end Go.Proofs.YthodmicoejnfaaaDoor
