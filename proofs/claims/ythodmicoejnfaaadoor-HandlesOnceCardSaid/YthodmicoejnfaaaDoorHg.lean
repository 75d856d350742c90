/-
  Free, at a pool in memory.
-/
import Derived.Test.YthodmicoejnfaaaDoorHf
import Derived.IntWalk
namespace Go.Proofs.YthodmicoejnfaaaDoor
set_option linter.unusedSimpArgs false
set_option linter.unusedVariables false
open Go.RowKit Go.Sort Go.Lib Go.Shelf

section
variable {pa : Nat} {S : List Slt} {Fr : List Int} {M : Nat → Prop} {w : World}

theorem free_no (hp : PoolAt 67 w M pa S Fr) (i g : Int) (hl : livesP S (i, g) = false) (t : TypeId) (v : Value) (hE : w.cell? ⟨3, 0, none⟩ = some (.iface t v)) :
    Calls Tryd.prog 27 #[.pointer (some ⟨pa, 0, none⟩), .agg #[.int .i64 i, .int .i64 g]] w fun e w' => e = .returned (.iface t v) ∧ RowKit.Below w.heap.size w w' := by
  have hL := Lib.hid (lives_call (hp.below (Ba (Below.refl _ w) (.cells #[.int .i64 i, .int .i64 g] 40))) i g)
  rw [hl] at hL
  have hE2 := Lib.hid (Bc (Ba (Below.refl _ w) (.cells #[.int .i64 i, .int .i64 g] 40)) (cell_lt hE) hE)
  clear hl hE hp
  go_enter Tryd.func27, Tryd.ntmps27
  go_wp2_with (go_at_call 18; refine hL.out.mono ?_; rintro e w1 ⟨rfl, hb1⟩; have x1 := Bc hb1 (cell_lt hE2.out) hE2.out)
  go_ret
  exact ⟨rfl, Bt (Ba (Below.refl _ w) _) hb1⟩

set_option maxHeartbeats 2000000 in
set_option maxRecDepth 100000 in
theorem free_last (hp : PoolAt 67 w M pa S Fr) (i : Int) (hl : livesP S (i, 1073741824) = true) :
    Calls Tryd.prog 27 #[.pointer (some ⟨pa, 0, none⟩), .agg #[.int .i64 i, .int .i64 1073741824]] w fun e w' => e = .returned .nilIface ∧
      PoolAt 67 w' (New M w w') pa (freeS S (i, 1073741824)) (freeF Fr (i, 1073741824)) ∧ Tch M w w' := by
  have hL := Lib.hid (lives_call (hp.below (Ba (Below.refl _ w) (.cells #[.int .i64 i, .int .i64 1073741824] 40))) i 1073741824)
  rw [hl] at hL
  obtain ⟨h1, h2, h3⟩ := livesP_iff.1 hl
  dsimp only at h1 h2 h3
  obtain ⟨n, rfl⟩ : ∃ n : Nat, i = n := ⟨i.toNat, by omega⟩
  have hn : n < S.length := by omega
  unfold freeS freeF
  dsimp only
  rw [if_pos rfl, if_pos rfl, Int.toNat_natCast]
  obtain ⟨vs, vf, hi⟩ := hp.is
  obtain ⟨ps, cs, rfl, a1, a2, a3⟩ := row_val hi.2.2.1.1
  obtain ⟨gs, rfl, hgs, og⟩ := a3 (by omega)
  unfold maxLen at a2
  have hpl := hi.lt
  have HI := Lib.hid hi
  have hne : gs ≠ pa := by
    obtain ⟨c, hc⟩ := row_type hi.2.2.1.1 (g := gs) rfl
    exact type_apart hc hi.1 (by decide)
  clear hi og a3 h1 h3 hl hp
  go_enter Tryd.func27, Tryd.ntmps27
  go_wp2_with (go_at_call 18; refine hL.out.mono ?_; rintro e w1 ⟨rfl, hb1⟩; have B1 := Lib.hid (Bt (Ba (Below.refl _ w) _) hb1); have BX := Lib.hid (blk_below (heap_alloc_new w (.cells #[.int .i64 n, .int .i64 1073741824] 40)) hb1); obtain ⟨x0, x1, _, _⟩ := two_cells BX.out; have P1 := Lib.hid (HI.out.below B1.out); obtain ⟨k0, _, _, _⟩ := P1.out.cells; have hlx := Lib.hid (cell_lt x0); clear hb1)
  have hH : gs ≠ w.heap.size := by omega
  have y0 := (row_cellsS P1.out.2.2.1.1 rfl n hn).1
  have y1 := (row_cellsS P1.out.2.2.1.1 rfl n hn).2
  have f0 := P1.out.2.2.1.1.frozenAt (n * 2)
  have f1 := P1.out.2.2.1.1.frozenAt (n * 2 + 1)
  generalize S[n]!.1 = ga at y0
  generalize S[n]!.2 = gb at y1
  go_region_held3 (fun w' => w'.cell? ⟨pa, 0, none⟩ = some (.slice (some ⟨gs, 0, none⟩) S.length cs) ∧ w'.cell? ⟨w.heap.size, 0, none⟩ = some (.int .i64 n) ∧ w'.cell? ⟨w.heap.size, 1, none⟩ = some (.int .i64 1073741824)) (first | exact ⟨k0, x0, x1⟩ | go_keep) (fail)
  all_goals
    go_wp2
    obtain ⟨P2, t2⟩ := P1.out.slot (by decide) n hn 1073741824 false
    go_ret
    exact ⟨rfl, P2.at.mono (fun b h => .inl h), ((Tch.of B1.out).more t2).more (Tch.of (Bd (Below.refl _ _)))⟩

set_option maxHeartbeats 2000000 in
set_option maxRecDepth 100000 in
theorem free_more (hp : PoolAt 67 w M pa S Fr) (r : Right S Fr) (i g : Int) (hl : livesP S (i, g) = true) (hg : ¬ g = 1073741824) :
    Calls Tryd.prog 27 #[.pointer (some ⟨pa, 0, none⟩), .agg #[.int .i64 i, .int .i64 g]] w fun e w' => e = .returned .nilIface ∧
      PoolAt 67 w' (New M w w') pa (freeS S (i, g)) (freeF Fr (i, g)) ∧ Tch M w w' := by
  have hL := Lib.hid (lives_call (hp.below (Ba (Below.refl _ w) (.cells #[.int .i64 i, .int .i64 g] 40))) i g)
  rw [hl] at hL
  obtain ⟨h1, h2, h3⟩ := livesP_iff.1 hl
  dsimp only at h1 h2 h3
  obtain ⟨n, rfl⟩ : ∃ n : Nat, i = n := ⟨i.toNat, by omega⟩
  have hn : n < S.length := by omega
  rw [Int.toNat_natCast] at h3
  have hgen := r.gen n hn
  rw [h3] at hgen
  obtain ⟨hg1, hg2⟩ := hgen
  dsimp only at hg1 hg2
  have hfl := r.freeLen
  unfold freeS freeF
  dsimp only
  rw [if_neg hg, if_neg hg, Int.toNat_natCast]
  obtain ⟨vs, vf, hi⟩ := hp.is
  obtain ⟨ps, cs, rfl, a1, a2, a3⟩ := row_val hi.2.2.1.1
  obtain ⟨pf, cf, rfl, b1, b2, b3⟩ := row_val hi.2.2.2.1
  obtain ⟨gs, rfl, hgs, og⟩ := a3 (by omega)
  unfold maxLen at a2 b2
  have hpl := hi.lt
  have HI := Lib.hid hi
  have hne : gs ≠ pa := by
    obtain ⟨c, hc⟩ := row_type hi.2.2.1.1 (g := gs) rfl
    exact type_apart hc hi.1 (by decide)
  have hgz : (g == 1073741824) = false := by simp; exact hg
  clear hi og a3 b3 h1 h3 hl hp r hg
  go_enter Tryd.func27, Tryd.ntmps27
  go_wp2_with (go_at_call 18; refine hL.out.mono ?_; rintro e w1 ⟨rfl, hb1⟩; have B1 := Lib.hid (Bt (Ba (Below.refl _ w) _) hb1); have BX := Lib.hid (blk_below (heap_alloc_new w (.cells #[.int .i64 n, .int .i64 g] 40)) hb1); obtain ⟨x0, x1, _, _⟩ := two_cells BX.out; have P1 := Lib.hid (HI.out.below B1.out); obtain ⟨k0, _, _, _⟩ := P1.out.cells; have hlx := Lib.hid (cell_lt x0); clear hb1)
  have hH : gs ≠ w.heap.size := by omega
  have hHp : w.heap.size ≠ pa := by omega
  have y0 := (row_cellsS P1.out.2.2.1.1 rfl n hn).1
  have y1 := (row_cellsS P1.out.2.2.1.1 rfl n hn).2
  have f0 := P1.out.2.2.1.1.frozenAt (n * 2)
  have f1 := P1.out.2.2.1.1.frozenAt (n * 2 + 1)
  generalize S[n]!.1 = ga at y0
  generalize S[n]!.2 = gb at y1
  have hwr : IntKind.i64.wrap (g + 1) = g + 1 := IntWalk.i64_in _ (by omega)
  go_region_held3 (fun w' => w'.cell? ⟨pa, 0, none⟩ = some (.slice (some ⟨gs, 0, none⟩) S.length cs) ∧ w'.cell? ⟨w.heap.size, 0, none⟩ = some (.int .i64 n) ∧ w'.cell? ⟨w.heap.size, 1, none⟩ = some (.int .i64 g)) (first | exact ⟨k0, x0, x1⟩ | go_keep) (fail)
  go_wp2_with fail
  obtain ⟨P2, t2⟩ := P1.out.slot (by decide) n hn (g + 1) false
  have BX2 := blk_far (blk_far BX.out (p := ⟨gs, n * 2, none⟩) (Ne.symm hH) (.int .i64 (g + 1))) (p := ⟨gs, n * 2 + 1, none⟩) (Ne.symm hH) (.bool false)
  obtain ⟨W3, hW3⟩ : ∃ W3, W3 = ((w1.setCell ⟨gs, n * 2, none⟩ (.int .i64 (g + 1))).setCell ⟨gs, n * 2 + 1, none⟩ (.bool false)).drew := ⟨_, rfl⟩
  have P3 := Lib.hid (show PoolIs 67 W3 M pa _ _ _ _ by rw [hW3]; exact P2)
  have T3 := Lib.hid (show Tch M w W3 by rw [hW3]; exact ((Tch.of B1.out).more t2).more (Tch.of (Bd (Below.refl _ _))))
  have BX3 := Lib.hid (show W3.heap[w.heap.size]? = some (.cells #[.int .i64 n, .int .i64 g] 40) by rw [hW3]; exact BX2)
  rw [← hW3]
  clear P2 t2 BX2 hW3 k0 x0 x1 y0 y1 f0 f1 hwr
  obtain ⟨_, k1, _, f1⟩ := P3.out.cells
  obtain ⟨x0, x1, _, _⟩ := two_cells BX3.out
  have hp3 := P3.out.lt
  have B4 := Lib.hid (Ba (Bd (Below.refl _ W3)) (.cells #[.int .i64 n] 3))
  have P4 := Lib.hid (P3.out.below B4.out)
  have S4 := Lib.hid (sl_lit (enc := encI) (w := W3.drew) (cs := #[.int .i64 n]) (t := 3) (b := W3.heap.size) [(n : Int)] rfl rfl (by unfold maxLen; simp))
  go_region_law (refine step_app2 apI rfl (.tmp 38) (.tmp 41) rfl 0 (by rfl) (by rfl) P4.out.2.2.2.1 rfl S4.out (by simp; omega) (Nat.zero_le _) ?_; intro v4 w4 hown4 hgrow4 hat4 _; obtain ⟨p4, c4, rfl, _, _, _⟩ := row_val hown4; have hrow4 := Lib.hid (row_grown P4.out.2.2.2.2 hown4 hgrow4 hat4); have G4 := Lib.hid (P4.out.grown1 (by decide) hgrow4); obtain ⟨_, z0, _, z1⟩ := two_cells G4.out.1; clear hown4 hgrow4 hat4)
  all_goals
    have hm : ∀ b, New M (W3.drew.alloc (.cells #[.int .i64 n] 3)) w4 b → New M w w4 b := fun b e => e.elim .inl (fun e => .inr ⟨by have := T3.out.size; have := B4.out.size; omega, e.2⟩)
    obtain ⟨P5, t5⟩ := pool_put1 (T := 67) (by decide) (by decide) G4.out.1 (.inl P3.out.2.1 : New M w w4 pa) (G4.out.2.mono (fun b h => .inl h)) (hrow4.out.1.mono hm)
    have hlenS : (Fr ++ [(n : Int)]).length = Fr.length + 1 := by simp
    rw [hlenS] at P5 t5
    have T5 := ((T3.out.more (Tch.of (M := M) B4.out)).more hrow4.out.2).trans t5
    clear z0 z1 hlenS
    go_wp2
    go_ret
    exact ⟨rfl, P5.at.mono (New.mono (by simp)), T5⟩
end
end Go.Proofs.YthodmicoejnfaaaDoor
