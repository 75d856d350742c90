/-
  Take, at a pool in memory: of a new place; where there is none.
-/
import Derived.Test.YthodmicoejnfaaaDoorHe
namespace Go.Proofs.YthodmicoejnfaaaDoor
set_option linter.unusedSimpArgs false
set_option linter.unusedVariables false
open Go.RowKit Go.Sort Go.Lib Go.Shelf

section
variable {pa : Nat} {S : List Slt} {Fr : List Int} {M : Nat → Prop} {w : World}

set_option maxHeartbeats 2000000 in
set_option maxRecDepth 100000 in
theorem take_new (hp : PoolAt 67 w M pa S Fr) (r : Right S Fr) (hf : ¬ 0 < Fr.length) (hs : ¬ S.length = 128) :
    Calls Tryd.prog 16 #[.pointer (some ⟨pa, 0, none⟩)] w fun e w' => e = .returned (.tuple #[.agg #[.int .i64 S.length, .int .i64 1], .nilIface]) ∧
      PoolAt 67 w' (New M w w') pa (S ++ [(1, true)]) Fr ∧ Tch M w w' := by
  have HP := Lib.hid hp
  have hlen := r.len
  have hN := Lib.hid (fun W (k : PoolAt 67 W M pa S Fr) => next_new k r hf hs)
  obtain ⟨vs, vf, hi⟩ := hp.is
  obtain ⟨ps, cs, rfl, a1, a2, a3⟩ := row_val hi.2.2.1.1
  unfold maxLen at a2
  have hpl := hi.lt
  have HI := Lib.hid hi
  clear hi a3 hs hp r hf
  go_enter Tryd.func16, Tryd.ntmps16
  go_wp2_with (go_at_call 35; refine (hN.out _ (HP.out.below (Ba (Below.refl _ w) _))).mono ?_; rintro e w1 ⟨rfl, hb1⟩; have hz1 : w.heap.size < w1.heap.size := Bl hb1 (by simp); have B1 := Bt (Ba (Below.refl _ w) _) hb1; obtain ⟨e0, _, g0, _⟩ := (HI.out.below B1).cells; have hpl1 := Bl B1 hpl; have BB := Lib.hid B1; have RB1 := Lib.hid (blk_below (heap_alloc_new w (.cells #[.int .i64 0, .int .i64 0] 40)) hb1); clear hb1 B1)
  go_quiet (fail)
  go_wp2_with fail
  obtain ⟨W0, hW0⟩ : ∃ W0, W0 = (w1.alloc (.cells #[.int .i64 S.length, .int .i64 1] 40)).drewN nq := ⟨_, rfl⟩
  have hHp : w1.heap.size ≠ pa := by omega
  have B0 := Lib.hid (show RowKit.Below w.heap.size w W0 by rw [hW0]; exact Bn (Ba BB.out _))
  have hp0 := Lib.hid (Bl B0.out hpl)
  have P0 := Lib.hid (HI.out.below B0.out)
  have HB0 := Lib.hid (show W0.heap[w1.heap.size]? = some (.cells #[.int .i64 S.length, .int .i64 1] 40 (0, 0)) by rw [hW0]; exact heap_alloc_new w1 _)
  have RB0 := Lib.hid (show W0.heap[w.heap.size]? = some (.cells #[.int .i64 0, .int .i64 0] 40 (0, 0)) by rw [hW0]; exact blk_below RB1.out (Bn (Ba (Below.refl _ w1) _)))
  obtain ⟨k0, _, f0, _⟩ := P0.out.cells
  obtain ⟨k1, k2, _, _⟩ := two_cells HB0.out
  rw [← hW0]
  have HW0 := Lib.hid hW0
  clear hW0 e0 g0
  generalize hHb : w1.heap.size = H at *
  clear hHb
  have hlH := Lib.hid (cell_lt k1)
  go_region_law (first
    | ((go_simp; go_at_call 36; refine (taken_call _ _ _).mono ?_; rintro e w2 ⟨rfl, hb2⟩; have B2 := Lib.hid (Bt (Bd (Below.refl _ W0)) hb2); have q0 := Bc B2.out hp0.out k0; have qf := Bf B2.out hp0.out f0; have hp2 := Bl B2.out hp0.out; have B3 := Lib.hid (Ba B2.out (.cells #[.int .i64 1, .bool true] 63)); have P3 := Lib.hid (P0.out.below B3.out); have S3 := Lib.hid (sl_lit (enc := encS) (w := w2) (cs := #[.int .i64 1, .bool true]) (t := 63) (b := w2.heap.size) [(1, true)] rfl rfl (by unfold maxLen; simp)); clear hb2))
    | (refine step_app2 apS rfl (.tmp 27) (.tmp 30) rfl 0 (by rfl) (by rfl) P3.out.2.2.1.1 rfl S3.out (by simp; omega) (Nat.zero_le _) ?_; intro v4 w4 hown4 hgrow4 hat4 _; obtain ⟨p4, c4, rfl, _, _, _⟩ := row_val hown4; have hrow4 := Lib.hid (row_grown P3.out.2.2.1.2 hown4 hgrow4 hat4); have G4 := Lib.hid (P3.out.grown0 (by decide) hgrow4); have HB4 := Lib.hid (blk_grown P3.out.2.2.1 hgrow4 (blk_below HB0.out (Ba B2.out _)) (by decide)); have RB4 := Lib.hid (blk_grown P3.out.2.2.1 hgrow4 (blk_below RB0.out (Ba B2.out _)) (by decide)); obtain ⟨z0, _, z1, _⟩ := two_cells G4.out.1; clear hown4 hgrow4 hat4))
  all_goals
    have hm : ∀ b, New M (w2.alloc (.cells #[.int .i64 1, .bool true] 63)) w4 b → New M w w4 b := fun b e => e.elim .inl (fun e => .inr ⟨by have := (Bt B0.out B3.out).size; omega, e.2⟩)
    obtain ⟨P5, t5⟩ := pool_put0 (T := 67) (by decide) (by decide) G4.out.1 (.inl P3.out.2.1 : New M w w4 pa) (hrow4.out.1.mono hm) (G4.out.2.mono (fun b h => .inl h))
    have hlenS : (S ++ [((1 : Int), true)]).length = S.length + 1 := by simp
    rw [hlenS] at P5 t5
    have HB5 := blk_far HB4.out (p := ⟨pa, 0, none⟩) hHp (.slice p4 (S.length + 1) c4)
    have RB5 := blk_far RB4.out (p := ⟨pa, 0, none⟩) (show w.heap.size ≠ pa by omega) (.slice p4 (S.length + 1) c4)
    have T5 := Lib.hid (((Tch.of (M := M) (Bt B0.out B3.out)).more hrow4.out.2).trans t5)
    obtain ⟨W5, hW5⟩ : ∃ W5, W5 = w4.setCell ⟨pa, 0, none⟩ (.slice p4 (S.length + 1) c4) := ⟨_, rfl⟩
    have hsz := Lib.hid (show w4.heap.size ≤ W5.heap.size by rw [hW5]; simp)
    rw [← hW5] at P5 HB5 RB5 T5 ⊢
    have HP5 := Lib.hid P5
    have HHB := Lib.hid HB5
    have HRB := Lib.hid RB5
    clear P5 t5 HB5 RB5 hW5 hlenS q0 qf z0 z1 k0 k1 k2 f0 hm
    obtain ⟨x0, x1, _, _⟩ := two_cells HHB.out
    obtain ⟨y0, y1, g0, g1⟩ := two_cells HRB.out
    go_wp2
    refine bodyPost_ret (v := .tuple #[.agg #[.int .i64 S.length, .int .i64 1], .nilIface]) (by simp [results, Tryd.results16, go_sem, y0, y1]) rfl ⟨rfl, ?_⟩
    have hRn : New M w W5 w.heap.size := .inr ⟨Nat.le_refl _, (Array.getElem?_eq_some_iff.1 HRB.out).1⟩
    have t6 : Tch (New M w W5) W5 ((W5.setCell ⟨w.heap.size, 0, none⟩ (.int .i64 S.length)).setCell ⟨w.heap.size, 1, none⟩ (.int .i64 1)) := (Tch.set _ hRn _).more (Tch.set _ hRn _)
    have P6 := HP5.out.other (p := ⟨w.heap.size, 0, none⟩) HRB.out (by decide) (by decide) (by decide) (.int .i64 S.length)
    have P7 := P6.other (p := ⟨w.heap.size, 1, none⟩) (heap_setCell_same _ _ 0 _ _ _ HRB.out) (by decide) (by decide) (by decide) (.int .i64 1)
    exact ⟨P7.at.mono (New.mono (by simpa using hsz.out)), T5.out.trans t6⟩

set_option maxHeartbeats 2000000 in
set_option maxRecDepth 100000 in
theorem take_full (hp : PoolAt 67 w M pa S Fr) (hf : ¬ 0 < Fr.length) (hs : S.length = 128) (t : TypeId) (v : Value) (hE : w.cell? ⟨2, 0, none⟩ = some (.iface t v)) :
    Calls Tryd.prog 16 #[.pointer (some ⟨pa, 0, none⟩)] w fun e w' => e = .returned (.tuple #[.agg #[.int .i64 0, .int .i64 0], .iface t v]) ∧ RowKit.Below w.heap.size w w' := by
  have hN := Lib.hid (next_full (hp.below (Ba (Below.refl _ w) (.cells #[.int .i64 0, .int .i64 0] 40))) hf hs _ (Bc (Ba (Below.refl _ w) _) (cell_lt hE) hE))
  clear hp hs hf hE
  go_enter Tryd.func16, Tryd.ntmps16
  go_wp2_with (go_at_call 35; refine hN.out.mono ?_; rintro e w1 ⟨rfl, hb1⟩; have hz1 : w.heap.size < w1.heap.size := Bl hb1 (by simp); have RB1 := blk_below (heap_alloc_new w (.cells #[.int .i64 0, .int .i64 0] 40)) hb1; obtain ⟨y0, y1, g0, g1⟩ := two_cells RB1)
  have hb2 := Bt (Ba (Below.refl _ w) _) hb1
  clear hb1
  exact bodyPost_ret (v := .tuple #[.agg #[.int .i64 0, .int .i64 0], .iface t v]) (by simp [results, Tryd.results16, go_sem, y0, y1, hz1]) rfl ⟨rfl, (by repeat (first | with_reducible exact Below.refl _ _ | with_reducible assumption | with_reducible apply Ba | with_reducible apply Bd | with_reducible apply Bn | with_reducible apply Bg | (with_reducible refine Bs ?_ (by first | (simp; done) | (simp; omega)) _) | (with_reducible refine Bt ?_ (by assumption)) | (with_reducible refine Bt ?_ (Gr.below (by assumption)))))⟩
end
end Go.Proofs.YthodmicoejnfaaaDoor
