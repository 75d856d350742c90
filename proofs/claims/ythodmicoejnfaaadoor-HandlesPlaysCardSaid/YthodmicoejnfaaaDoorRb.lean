/-
  The reference's Take.
-/
import Derived.Test.YthodmicoejnfaaaDoorRa
import Derived.Test.YthodmicoejnfaaaDoorSt
namespace Go.Proofs.YthodmicoejnfaaaDoor
set_option linter.unusedSimpArgs false
set_option linter.unusedVariables false
open Go.RowKit Go.Sort Go.Lib Go.Shelf

section
variable {pa : Nat} {S : List Slt} {Fr : List Int} {M : Nat → Prop} {w : World}

set_option maxHeartbeats 2000000 in
set_option maxRecDepth 100000 in
theorem rtake_free (hp : PoolAt 37 w M pa S Fr) (r : Right S Fr) (hf : 0 < Fr.length) :
    Calls Tryd.prog 38 #[.pointer (some ⟨pa, 0, none⟩)] w fun e w' => e = .returned (.tuple #[.agg #[.int .i64 (topF Fr), .int .i64 S[(topF Fr).toNat]!.1], .int .i64 0]) ∧
      PoolAt 37 w' (New M w w') pa (S.set (topF Fr).toNat (S[(topF Fr).toNat]!.1, true)) (Fr.take (Fr.length - 1)) ∧ Tch M w w' := by
  obtain ⟨t1, t2, _⟩ := r.top hf
  obtain ⟨n, hn⟩ : ∃ n : Nat, topF Fr = n := ⟨(topF Fr).toNat, by omega⟩
  rw [hn] at t2 ⊢
  rw [Int.toNat_natCast] at t2 ⊢
  obtain ⟨vs, vf, hi⟩ := hp.is
  obtain ⟨ps, cs, rfl, a1, a2, a3⟩ := row_val hi.2.2.1.1
  obtain ⟨pf, cf, rfl, b1, b2, b3⟩ := row_val hi.2.2.2.1
  obtain ⟨gs, rfl, hgs, og⟩ := a3 (by omega)
  obtain ⟨gf, rfl, hgf, of⟩ := b3 hf
  unfold maxLen at a2 b2
  have hpl := hi.lt
  have HI := Lib.hid hi
  obtain ⟨k0, k1, f0, f1⟩ := hi.cells
  have hne : gs ≠ pa := by
    obtain ⟨c, hc⟩ := row_type hi.2.2.1.1 (g := gs) rfl
    exact type_apart hc hi.1 (by decide)
  have hne2 : gf ≠ pa := by
    obtain ⟨c, hc⟩ := row_type hi.2.2.2.1 (g := gf) rfl
    exact type_apart hc hi.1 (by decide)
  obtain ⟨d1, d2⟩ := row_cellsS hi.2.2.1.1 rfl n t2
  have d3 := row_cellsI hi.2.2.2.1 rfl (Fr.length - 1) (by omega)
  change w.cell? ⟨gf, Fr.length - 1, none⟩ = some (.int .i64 (topF Fr)) at d3
  rw [hn] at d3
  have fz1 := hi.2.2.1.1.frozenAt (n * 2 + 1)
  generalize hgen : S[n]!.1 = gen at d1 ⊢
  have HG := Lib.hid hgen
  generalize S[n]!.2 = bl at d2
  clear hi og of a3 b3 t1 hn hp r hgen
  have hH1 : pa ≠ w.heap.size := by omega
  have hH2 : gs ≠ w.heap.size := by omega
  have hH3 : pa ≠ gs := Ne.symm hne
  have hz1 : Fr.length - 1 ≤ cf := by omega
  go_enter Tryd.func38, Tryd.ntmps38
  go_wp2
  refine bodyPost_ret (v := .tuple #[.agg #[.int .i64 n, .int .i64 gen], .int .i64 0]) (by simp [results, Tryd.results38, go_sem]) rfl ⟨rfl, ?_⟩
  obtain ⟨P1, u1⟩ := pool_put1 (T := 37) (by decide) (by decide) HI.out.1 HI.out.2.1 HI.out.2.2.1 (HI.out.2.2.2.front (Fr.length - 1) (by omega))
  obtain ⟨P2, u2⟩ := P1.cell (by decide) (n * 2 + 1) (.bool true) (flat_set1 S n t2 true) (by simp)
  rw [HG.out] at P2
  have B3 := Ba (Below.refl _ ((w.setCell ⟨pa, 1, none⟩ (.slice (some ⟨gf, 0, none⟩) (Fr.length - 1) cf)).setCell ⟨gs, n * 2 + 1, none⟩ (.bool true))) (.cells #[.int .i64 n, .int .i64 gen] 40)
  exact ⟨(P2.below B3).at.mono (fun b h => .inl h), (u1.more u2).more (Tch.of B3)⟩

set_option maxHeartbeats 2000000 in
set_option maxRecDepth 100000 in
theorem rtake_new (hp : PoolAt 37 w M pa S Fr) (r : Right S Fr) (hf : ¬ 0 < Fr.length) (hs : ¬ S.length = 128) :
    Calls Tryd.prog 38 #[.pointer (some ⟨pa, 0, none⟩)] w fun e w' => e = .returned (.tuple #[.agg #[.int .i64 S.length, .int .i64 1], .int .i64 0]) ∧
      PoolAt 37 w' (New M w w') pa (S ++ [(1, true)]) Fr ∧ Tch M w w' := by
  have hlen := r.len
  obtain ⟨vs, vf, hi⟩ := hp.is
  obtain ⟨ps, cs, rfl, a1, a2, a3⟩ := row_val hi.2.2.1.1
  obtain ⟨pf, cf, rfl, b1, b2, b3⟩ := row_val hi.2.2.2.1
  unfold maxLen at a2 b2
  clear a3 b3
  have hpl := hi.lt
  have HI := Lib.hid hi
  obtain ⟨k0, k1, f0, f1⟩ := hi.cells
  have hH1 : pa ≠ w.heap.size := by omega
  have hz : ((S.length : Int) == 128) = false := by simp; omega
  have B3 := Lib.hid (Ba (Ba (Below.refl _ w) (.cells #[.int .i64 0, .int .i64 0] 40)) (.cells #[.int .i64 1, .bool true] 63))
  have P3 := Lib.hid (HI.out.below B3.out)
  have S3 := Lib.hid (sl_lit (enc := encS) (w := w.alloc (.cells #[.int .i64 0, .int .i64 0] 40)) (cs := #[.int .i64 1, .bool true]) (t := 63) (b := w.heap.size + 1) [(1, true)] (by simp) rfl (by unfold maxLen; simp))
  have RB3 := Lib.hid (blk_below (heap_alloc_new w (.cells #[.int .i64 0, .int .i64 0] 40)) (Ba (Below.refl _ (w.alloc (.cells #[.int .i64 0, .int .i64 0] 40))) (.cells #[.int .i64 1, .bool true] 63)))
  clear hi hs hp r
  go_enter Tryd.func38, Tryd.ntmps38
  go_wp2_with (at_builtin; refine wpl_app2 apS rfl _ _ rfl 0 (by rfl) (by rfl) P3.out.2.2.1.1 rfl S3.out (by simp; omega) (Nat.zero_le _) ?_; intro v4 w4 hown4 hgrow4 hat4 _; obtain ⟨p4, c4, rfl, _, y2, _⟩ := row_val hown4; have hrow4 := Lib.hid (row_grown P3.out.2.2.1.2 hown4 hgrow4 hat4); have G4 := Lib.hid (P3.out.grown0 (by decide) hgrow4); have RB4 := Lib.hid (blk_grown P3.out.2.2.1 hgrow4 RB3.out (by decide)); obtain ⟨z0, _, z1, _⟩ := two_cells G4.out.1; obtain ⟨y0, y1, g0, g1⟩ := two_cells RB4.out; clear hown4 hgrow4 hat4)
  refine bodyPost_ret (v := .tuple #[.agg #[.int .i64 S.length, .int .i64 1], .int .i64 0]) (by simp [results, Tryd.results38, go_sem, y0, y1]) rfl ⟨rfl, ?_⟩
  have hm : ∀ b, New M ((w.alloc (.cells #[.int .i64 0, .int .i64 0] 40)).alloc (.cells #[.int .i64 1, .bool true] 63)) w4 b → New M w w4 b := fun b e => e.elim .inl (fun e => .inr ⟨by have := B3.out.size; omega, e.2⟩)
  obtain ⟨P5, t5⟩ := pool_put0 (T := 37) (by decide) (by decide) G4.out.1 (.inl P3.out.2.1 : New M w w4 pa) (hrow4.out.1.mono hm) (G4.out.2.mono (fun b h => .inl h))
  have hlenS : (S ++ [((1 : Int), true)]).length = S.length + 1 := by simp
  rw [hlenS] at P5 t5
  have RB5 := blk_far RB4.out (p := ⟨pa, 0, none⟩) (Ne.symm hH1) (.slice p4 (S.length + 1) c4)
  have T5 := ((Tch.of (M := M) B3.out).more hrow4.out.2).trans t5
  have P6 := P5.other (p := ⟨w.heap.size, 0, none⟩) RB5 (by decide) (by decide) (by decide) (.int .i64 S.length)
  have P7 := P6.other (p := ⟨w.heap.size, 1, none⟩) (heap_setCell_same _ _ 0 _ _ _ RB5) (by decide) (by decide) (by decide) (.int .i64 1)
  have hRn : New M w (w4.setCell ⟨pa, 0, none⟩ (.slice p4 (S.length + 1) c4)) w.heap.size := .inr ⟨Nat.le_refl _, (Array.getElem?_eq_some_iff.1 RB5).1⟩
  exact ⟨P7.at.mono (New.mono (by simp)), T5.trans ((Tch.set _ hRn _).more (Tch.set _ hRn _))⟩

theorem rtake_full (hp : PoolAt 37 w M pa S Fr) (hf : ¬ 0 < Fr.length) (hs : S.length = 128) :
    Calls Tryd.prog 38 #[.pointer (some ⟨pa, 0, none⟩)] w fun e w' => e = .returned (.tuple #[.agg #[.int .i64 0, .int .i64 0], .int .i64 2]) ∧ RowKit.Below w.heap.size w w' := by
  obtain ⟨ps, cs, pf, cf, c0, c1, f0, f1, hl, a1, a2, b1, b2, _, _, _, _⟩ := pool_open hp
  clear hp
  rw [hs] at c0 a1
  clear hs
  generalize Fr.length = L at *
  go_enter Tryd.func38, Tryd.ntmps38
  go_wp2
  exact bodyPost_ret (v := .tuple #[.agg #[.int .i64 0, .int .i64 0], .int .i64 2]) (by simp [results, Tryd.results38, go_sem]) rfl ⟨rfl, (by repeat (first | with_reducible exact Below.refl _ _ | with_reducible assumption | with_reducible apply Ba | with_reducible apply Bd | with_reducible apply Bn | with_reducible apply Bg | (with_reducible refine Bs ?_ (by first | (simp; done) | (simp; omega)) _) | (with_reducible refine Bt ?_ (by assumption)) | (with_reducible refine Bt ?_ (Gr.below (by assumption)))))⟩

theorem rtake_call (hp : PoolAt 37 w M pa S Fr) (r : Right S Fr) {h : Hd} {S' : List Slt} {Fr' : List Int} (e : takeP S Fr = some (h, S', Fr')) :
    Calls Tryd.prog 38 #[.pointer (some ⟨pa, 0, none⟩)] w fun e w' => e = .returned (.tuple #[.agg #[.int .i64 h.1, .int .i64 h.2], .int .i64 0]) ∧ PoolAt 37 w' (New M w w') pa S' Fr' ∧ Tch M w w' := by
  by_cases hf : 0 < Fr.length
  · rw [takeP_free hf] at e
    simp only [Option.some.injEq, Prod.mk.injEq] at e
    obtain ⟨rfl, rfl, rfl⟩ := e
    exact rtake_free hp r hf
  · by_cases hs : S.length = 128
    · rw [takeP_full hf hs] at e; cases e
    · rw [takeP_new hf hs] at e
      simp only [Option.some.injEq, Prod.mk.injEq] at e
      obtain ⟨rfl, rfl, rfl⟩ := e
      exact rtake_new hp r hf hs
theorem rtake_none (hp : PoolAt 37 w M pa S Fr) (e : takeP S Fr = none) :
    Calls Tryd.prog 38 #[.pointer (some ⟨pa, 0, none⟩)] w fun e w' => e = .returned (.tuple #[.agg #[.int .i64 0, .int .i64 0], .int .i64 2]) ∧ RowKit.Below w.heap.size w w' := by
  obtain ⟨rfl, hs⟩ := takeP_none e
  exact rtake_full hp (by simp) hs
end
end Go.Proofs.YthodmicoejnfaaaDoor
