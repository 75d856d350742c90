/-
  Take, at a pool in memory: of a free place.
-/
import Derived.Test.YthodmicoejnfaaaDoorHd
namespace Go.Proofs.YthodmicoejnfaaaDoor
set_option linter.unusedSimpArgs false
set_option linter.unusedVariables false
open Go.RowKit Go.Sort Go.Lib Go.Shelf

section
variable {pa : Nat} {S : List Slt} {Fr : List Int} {M : Nat → Prop} {w : World}

set_option maxHeartbeats 2000000 in
set_option maxRecDepth 100000 in
theorem take_free (hp : PoolAt 67 w M pa S Fr) (r : Right S Fr) (hf : 0 < Fr.length) :
    Calls Tryd.prog 16 #[.pointer (some ⟨pa, 0, none⟩)] w fun e w' => e = .returned (.tuple #[.agg #[.int .i64 (topF Fr), .int .i64 S[(topF Fr).toNat]!.1], .nilIface]) ∧
      PoolAt 67 w' (New M w w') pa (S.set (topF Fr).toNat (S[(topF Fr).toNat]!.1, true)) (Fr.take (Fr.length - 1)) ∧ Tch M w w' := by
  have HP := Lib.hid hp
  obtain ⟨t1, t2, _⟩ := r.top hf
  obtain ⟨n, hn⟩ : ∃ n : Nat, topF Fr = n := ⟨(topF Fr).toNat, by omega⟩
  have hN := Lib.hid (fun W (k : PoolAt 67 W M pa S Fr) => next_free k r hf)
  rw [hn] at t2 hN ⊢
  rw [Int.toNat_natCast] at t2 hN ⊢
  obtain ⟨vs, vf, hi⟩ := hp.is
  obtain ⟨ps, cs, rfl, a1, a2, a3⟩ := row_val hi.2.2.1.1
  obtain ⟨pf, cf, rfl, b1, b2, b3⟩ := row_val hi.2.2.2.1
  obtain ⟨gs, rfl, hgs, og⟩ := a3 (by omega)
  obtain ⟨gf, rfl, hgf, of⟩ := b3 hf
  unfold maxLen at a2 b2
  have hpl := hi.lt
  have HI := Lib.hid hi
  have hne : gs ≠ pa := by
    obtain ⟨c, hc⟩ := row_type hi.2.2.1.1 (g := gs) rfl
    exact type_apart hc hi.1 (by decide)
  have d2 := row_cellsS hi.2.2.1.1 rfl n t2
  have fz1 := hi.2.2.1.1.frozenAt (n * 2)
  have fz2 := hi.2.2.1.1.frozenAt (n * 2 + 1)
  obtain ⟨d2, d3⟩ := d2
  generalize hgen : S[n]!.1 = gen at d2 hN ⊢
  generalize hb3 : S[n]!.2 = bl at d3
  clear hb3 hgen hi og of a3 b3 t1 hn
  have hnk : ((n : Int) == (S.length : Int)) = false := by simp; omega
  go_enter Tryd.func16, Tryd.ntmps16
  go_wp2_with (go_at_call 35; refine (hN.out _ (HP.out.below (Ba (Below.refl _ w) _))).mono ?_; rintro e w1 ⟨rfl, hb1⟩; have hz1 : w.heap.size < w1.heap.size := Bl hb1 (by simp); have B1 := Bt (Ba (Below.refl _ w) _) hb1; obtain ⟨e0, _, g0, _⟩ := (HI.out.below B1).cells; have hpl1 := Bl B1 hpl; have BB := Lib.hid B1; have RB1 := Lib.hid (blk_below (heap_alloc_new w (.cells #[.int .i64 0, .int .i64 0] 40)) hb1); clear hb1 B1)
  go_quiet (fail)
  go_wp2_with fail
  obtain ⟨W0, hW0⟩ : ∃ W0, W0 = (w1.alloc (.cells #[.int .i64 n, .int .i64 gen] 40)).drewN nq := ⟨_, rfl⟩
  have hH : gs ≠ w1.heap.size := by have := Bl BB.out hgs; omega
  have hHp : w1.heap.size ≠ pa := by omega
  have B0 := Lib.hid (show RowKit.Below w.heap.size w W0 by rw [hW0]; exact Bn (Ba BB.out _))
  have hp0 := Lib.hid (Bl B0.out hpl)
  have hr0 := Lib.hid (Bl B0.out hgs)
  have k0 := (HI.out.below B0.out).cells.1
  have k1 : W0.cell? ⟨w1.heap.size, 0, none⟩ = some (.int .i64 n) := by rw [hW0]; simp
  have k2 : W0.cell? ⟨w1.heap.size, 1, none⟩ = some (.int .i64 gen) := by rw [hW0]; simp
  have hl0 := Lib.hid (cell_lt k1)
  have HB0 := Lib.hid (show W0.heap[w1.heap.size]? = some (.cells #[.int .i64 n, .int .i64 gen] 40 (0, 0)) by rw [hW0]; exact heap_alloc_new w1 _)
  have RB0 := Lib.hid (show W0.heap[w.heap.size]? = some (.cells #[.int .i64 0, .int .i64 0] 40 (0, 0)) by rw [hW0]; exact blk_below RB1.out (Bn (Ba (Below.refl _ w1) _)))
  rw [← hW0]
  have HW0 := Lib.hid hW0
  clear hW0 e0 g0
  generalize hHb : w1.heap.size = H at *
  clear hHb
  go_region_held3 (fun w' => w'.cell? ⟨pa, 0, none⟩ = some (.slice (some ⟨gs, 0, none⟩) S.length cs) ∧ w'.cell? ⟨H, 0, none⟩ = some (.int .i64 n) ∧ w'.cell? ⟨H, 1, none⟩ = some (.int .i64 gen)) (first | exact ⟨k0, k1, k2⟩ | exact ⟨Bc hb2 hp0.out k0, Bc hb2 hl0.out k1, Bc hb2 hl0.out k2⟩ | go_keep) ((go_at_call 36; refine (taken_call _ _ _).mono ?_; rintro e w2 ⟨rfl, hb2⟩; have x2 := Bc hb2 hr0.out (row_cellsS (HI.out.below B0.out).2.2.1.1 rfl n t2).1; have x3 := Bc hb2 hr0.out (row_cellsS (HI.out.below B0.out).2.2.1.1 rfl n t2).2; have y2 := Bf hb2 hr0.out ((HI.out.below B0.out).2.2.1.1.frozenAt (n * 2)); have y3 := Bf hb2 hr0.out ((HI.out.below B0.out).2.2.1.1.frozenAt (n * 2 + 1))))
  have B2 := Bt (Bd (Below.refl _ W0)) hb2
  have P2 := (HI.out.below B0.out).below B2
  have HB2 := blk_below HB0.out B2
  have RB2 := blk_below RB0.out B2
  obtain ⟨P3, t3⟩ := P2.slot (by decide) n t2 gen true
  have hgR : w.heap.size ≠ gs := by omega
  have HB3 := blk_far (blk_far HB2 (p := ⟨gs, n * 2, none⟩) (Ne.symm hH) (.int .i64 gen)) (p := ⟨gs, n * 2 + 1, none⟩) (Ne.symm hH) (.bool true)
  have RB3 := blk_far (blk_far RB2 (p := ⟨gs, n * 2, none⟩) hgR (.int .i64 gen)) (p := ⟨gs, n * 2 + 1, none⟩) hgR (.bool true)
  have T3 := Lib.hid ((Tch.of (M := M) (Bt B0.out B2)).more t3)
  clear t3 x2 x3 y2 y3 B2 P2 HB2 RB2 k0 k1 k2 hb2 d2 d3 fz1 fz2
  generalize (w2.setCell ⟨gs, n * 2, none⟩ (.int .i64 gen)).setCell ⟨gs, n * 2 + 1, none⟩ (.bool true) = W3 at *
  have hR := Lib.hid (show pa ≠ w.heap.size by omega)
  obtain ⟨_, q1, _, q2⟩ := P3.cells
  have HP3 := Lib.hid P3
  have HHB := Lib.hid HB3
  have HRB := Lib.hid RB3
  have hfz : Fr.length - 1 ≤ cf := by omega
  have hfz1 : (1 : Int) ≤ (Fr.length : Int) := by omega
  have hfz2 : (Fr.length : Int) - 1 ≤ (cf : Int) := by omega
  clear P3 HB3 RB3
  go_wp2_with fail
  go_region
  all_goals
    obtain ⟨P4, t4⟩ := pool_put1 (T := 67) (by decide) (by decide) HP3.out.1 HP3.out.2.1 HP3.out.2.2.1 (HP3.out.2.2.2.front (Fr.length - 1) (by omega))
    have HB4 := blk_far HHB.out (p := ⟨pa, 1, none⟩) hHp (.slice (some ⟨gf, 0, none⟩) (Fr.length - 1) cf)
    have RB4 := blk_far HRB.out (p := ⟨pa, 1, none⟩) (Ne.symm hR.out) (.slice (some ⟨gf, 0, none⟩) (Fr.length - 1) cf)
    have T4 := Lib.hid (T3.out.more t4)
    obtain ⟨W4, hW4⟩ : ∃ W4, W4 = (W3.setCell ⟨pa, 1, none⟩ (.slice (some ⟨gf, 0, none⟩) (Fr.length - 1) cf)).drew := ⟨_, rfl⟩
    have P5 := Lib.hid (show PoolIs 67 W4 M pa _ _ _ _ by rw [hW4]; exact P4)
    have T5 := Lib.hid (show Tch M w W4 by rw [hW4]; exact T4.out.more (Tch.of (Bd (Below.refl _ _))))
    have HB5 := Lib.hid (show W4.heap[H]? = some (.cells #[.int .i64 n, .int .i64 gen] 40 (0, 0)) by rw [hW4]; exact HB4)
    have RB5 := Lib.hid (show W4.heap[w.heap.size]? = some (.cells #[.int .i64 0, .int .i64 0] 40 (0, 0)) by rw [hW4]; exact RB4)
    rw [← hW4]
    clear P4 t4 HB4 RB4 T4 hW4 q1 q2
    obtain ⟨x0, x1, _, _⟩ := two_cells HB5.out
    obtain ⟨y0, y1, z0, z1⟩ := two_cells RB5.out
    go_wp2
    refine bodyPost_ret (v := .tuple #[.agg #[.int .i64 n, .int .i64 gen], .nilIface]) (by simp [results, Tryd.results16, go_sem, y0, y1]) rfl ⟨rfl, ?_⟩
    have hRn : New M w W4 w.heap.size := .inr ⟨Nat.le_refl _, (Array.getElem?_eq_some_iff.1 RB5.out).1⟩
    have t6 : Tch (New M w W4) W4 ((W4.setCell ⟨w.heap.size, 0, none⟩ (.int .i64 n)).setCell ⟨w.heap.size, 1, none⟩ (.int .i64 gen)) := (Tch.set _ hRn _).more (Tch.set _ hRn _)
    have P6 := P5.out.other (p := ⟨w.heap.size, 0, none⟩) RB5.out (by decide) (by decide) (by decide) (.int .i64 n)
    have P7 := P6.other (p := ⟨w.heap.size, 1, none⟩) (heap_setCell_same _ _ 0 _ _ _ RB5.out) (by decide) (by decide) (by decide) (.int .i64 gen)
    exact ⟨P7.at.mono (fun b h => .inl h), T5.out.trans t6⟩
end
end Go.Proofs.YthodmicoejnfaaaDoor
