import Derived.Test.YtlnncnbahmgpfaaDoorZ46

/-
  QuadWalks' closure: what is met.
-/
namespace Go.Proofs.YtlnncnbahmgpfaaDoor
set_option linter.unusedSimpArgs false
set_option linter.unusedVariables false
open Go.RowKit Go.Sort Go.Lib Go.Shelf

/-- What the law keeps beside the tree: what was met, whether all was right, the boxes that are wanted, the boxes. -/
structure Law (bm bo bw b3 mp g o cap : Nat) (l : List Bx4) (m c : Nat) (f : Hd → Option Bool) (W : World) : Prop where
  met : W.heap[bm]? = some (.cells #[.int .i64 (m : Nat)] 3 (0, 0))
  ok : W.heap[bo]? = some (.cells #[.bool true] 4 (0, 0))
  want : W.heap[bw]? = some (.cells #[.map (some mp)] 46 (0, 0))
  row : W.heap[b3]? = some (.cells #[.slice (some ⟨g, o, none⟩) l.length cap] 43 (0, 0))
  map : MapW W mp c f
  boxes : ∀ j u, (flat encX l)[j]? = some u → W.cell? ⟨g, o + j, none⟩ = some u
theorem one_c {w : World} {b : Nat} {a : Value} {t : Nat} (h : w.heap[b]? = some (.cells #[a] t (0, 0))) : w.cell? ⟨b, 0, none⟩ = some a ∧ w.frozen? ⟨b, 0, none⟩ = false := one_cell h
set_option maxHeartbeats 4000000 in
set_option maxRecDepth 100000 in
theorem each_call {bm bo bw b3 mp g o cap : Nat} {l : List Bx4} {m c : Nat} {f : Hd → Option Bool} {w : World} (hL : Law bm bo bw b3 mp g o cap l m c f w) (hn1 : bm ≠ bo) (hn2 : bm ≠ mp) (hn3 : bo ≠ mp) (hn4 : bm ≠ bw) (hn5 : bo ≠ bw) (hn6 : bm ≠ b3) (hn7 : bo ≠ b3) (hn8 : bm ≠ g) (hn9 : bo ≠ g) (hm : m ≤ 1000) (hll : l.length ≤ 40) (hcap1 : l.length ≤ cap) (hcap : cap ≤ 9223372036854775807)
    (j : Nat) (hj : j < l.length) (hf : f ((j : Int), 1) = some true) :
    Calls Tryd.prog 20 #[.agg #[.int .i64 (j : Int), .int .i64 1], bxV l[j]!, .pointer (some ⟨bm, 0, none⟩), .pointer (some ⟨bo, 0, none⟩), .pointer (some ⟨bw, 0, none⟩), .pointer (some ⟨b3, 0, none⟩)] w fun e w' => (∃ r, e = .returned r) ∧ Law bm bo bw b3 mp g o cap l (m + 1) (c - 1) (fun z => if z = ((j : Int), 1) then none else f z) w' ∧ Tch (fun b => b = bm ∨ b = bo ∨ b = mp) w w' := by
  obtain ⟨l1, l2, l3, l4, l5, l6⟩ := hL
  obtain ⟨k1, f1⟩ := one_c l1
  obtain ⟨k2, f2⟩ := one_c l2
  obtain ⟨k3, f3⟩ := one_c l3
  obtain ⟨k4, f4⟩ := one_c l4
  have hx := hd_at (j : Int) (by omega) (by omega)
  obtain ⟨k5, k6, k7, k8⟩ := atX l6 hj
  have HEQ := Lib.hid (fun W => eqB_run l[j]! l[j]! W)
  have hq1 := cell_lt k1
  have hq2 := cell_lt k2
  have hq3 := cell_lt k3
  have hq4 := cell_lt k4
  have hqg := cell_lt k5
  have HL1 := Lib.hid l1
  have HL2 := Lib.hid l2
  have HL3 := Lib.hid l3
  have HL4 := Lib.hid l4
  have HL5 := Lib.hid l5
  have HL6 := Lib.hid l6
  clear l1 l2 l3 l4 l5 l6
  generalize l[j]! = x at *
  obtain ⟨x1, x2, x3, x4⟩ := x
  dsimp only at k5 k6 k7 k8
  have eB := HEQ.out
  unfold bxV at eB
  simp only [decide_true] at eB
  have gb := gdB_run
  have hw1 : wrap64 ((m : Int) + 1) = (m : Int) + 1 := IntWalk.wrap64_in _ ⟨by omega, by omega⟩
  have HK := Lib.hid (And.intro k2 (And.intro k3 (And.intro k4 (And.intro k5 (And.intro k6 (And.intro k7 k8))))))
  have HQ := Lib.hid (And.intro hq2 (And.intro hq3 (And.intro hq4 hqg)))
  have HNN := Lib.hid (And.intro hn1 (And.intro hn2 (And.intro hn3 (And.intro hn4 (And.intro hn5 (And.intro hn6 (And.intro hn7 (And.intro hn8 hn9))))))))
  have HEB := Lib.hid eB
  have HGB := Lib.hid gb
  have HF := Lib.hid hf
  have HF2 := Lib.hid f2
  clear k2 k3 k4 k5 k6 k7 k8 hq2 hq3 hq4 hqg hn1 hn2 hn3 hn4 hn5 hn6 hn7 hn8 hn9 eB gb hf f2 f3 f4 HEQ
  go_enter Tryd.func20, Tryd.ntmps20
  go_wp2_with fail
  obtain ⟨W0, hW0⟩ : ∃ W0, W0 = ((w.setCell ⟨bm, 0, none⟩ (.int .i64 ((m : Int) + 1))).alloc (.cells #[.int .i64 (j : Int), .int .i64 1] 50)).alloc (.cells #[.int .i64 x1, .int .i64 x2, .int .i64 x3, .int .i64 x4] 23) := ⟨_, rfl⟩
  rw [← hW0]
  have hs0 : (w.setCell ⟨bm, 0, none⟩ (.int .i64 ((m : Int) + 1))).heap.size = w.heap.size := by simp
  have T0 := Lib.hid (show Tch (fun b => b = bm) w W0 from by rw [hW0]; exact ((Tch.set w (M := fun b => b = bm) rfl _).alloc _).alloc _)
  have b8 : W0.heap[w.heap.size]? = some (.cells #[.int .i64 (j : Int), .int .i64 1] 50 (0, 0)) := by
    rw [hW0]
    have := blk_below (heap_alloc_new (w.setCell ⟨bm, 0, none⟩ (.int .i64 ((m : Int) + 1))) (.cells #[.int .i64 (j : Int), .int .i64 1] 50)) (Ba (Below.refl _ _) (.cells #[.int .i64 x1, .int .i64 x2, .int .i64 x3, .int .i64 x4] 23))
    rwa [hs0] at this
  have b9 : W0.heap[w.heap.size + 1]? = some (.cells #[.int .i64 x1, .int .i64 x2, .int .i64 x3, .int .i64 x4] 23 (0, 0)) := by
    rw [hW0]
    have := heap_alloc_new ((w.setCell ⟨bm, 0, none⟩ (.int .i64 ((m : Int) + 1))).alloc (.cells #[.int .i64 (j : Int), .int .i64 1] 50)) (.cells #[.int .i64 x1, .int .i64 x2, .int .i64 x3, .int .i64 x4] 23)
    simpa using this
  have hm0 : W0.heap[bm]? = some (.cells #[.int .i64 ((m : Int) + 1)] 3 (0, 0)) := by
    have e := heap_setCell_same w bm 0 #[.int .i64 (m : Nat)] 3 (.int .i64 ((m : Int) + 1)) HL1.out
    rw [hW0]
    refine blk_below (blk_below (by simpa using e) (Ba (Below.refl _ _) _)) (Ba (Below.refl _ _) _)
  clear hW0 hs0
  obtain ⟨hn1, hn2, hn3, hn4, hn5, hn6, hn7, hn8, hn9⟩ := HNN.out
  obtain ⟨hq2, hq3, hq4, hqg⟩ := HQ.out
  obtain ⟨k2, k3, k4, k5, k6, k7, k8⟩ := HK.out
  have HC := Lib.hid (show ∀ W, Tch (fun b => b = bo) W0 W → W.cell? ⟨bw, 0, none⟩ = some (.map (some mp)) ∧ W.cell? ⟨b3, 0, none⟩ = some (.slice (some ⟨g, o, none⟩) l.length cap) ∧ W.cell? ⟨w.heap.size, 0, none⟩ = some (.int .i64 (j : Int)) ∧ W.cell? ⟨w.heap.size, 1, none⟩ = some (.int .i64 1) ∧ W.cell? ⟨w.heap.size + 1, 0, none⟩ = some (.int .i64 x1) ∧ W.cell? ⟨w.heap.size + 1, 1, none⟩ = some (.int .i64 x2) ∧ W.cell? ⟨w.heap.size + 1, 2, none⟩ = some (.int .i64 x3) ∧ W.cell? ⟨w.heap.size + 1, 3, none⟩ = some (.int .i64 x4) ∧ W.cell? ⟨g, o + j * 4, none⟩ = some (.int .i64 x1) ∧ W.cell? ⟨g, o + j * 4 + 1, none⟩ = some (.int .i64 x2) ∧ W.cell? ⟨g, o + j * 4 + 2, none⟩ = some (.int .i64 x3) ∧ W.cell? ⟨g, o + j * 4 + 3, none⟩ = some (.int .i64 x4) from fun W ht => by
    have u8 := ht.blk b8 (fun e => by omega)
    have u9 := ht.blk b9 (fun e => by omega)
    obtain ⟨z1, z2, _, _⟩ := two_cells u8
    obtain ⟨z3, z4, z5, z6⟩ := cells4 u9
    have s2 : ∀ {b c : Nat} {u : Value}, b < w.heap.size → b ≠ bm → b ≠ bo → w.cell? ⟨b, c, none⟩ = some u → W.cell? ⟨b, c, none⟩ = some u := fun hl h1 h2 hc => ht.cell (T0.out.lt hl) h2 (T0.out.cell hl h1 hc)
    exact ⟨s2 hq3 hn4.symm hn5.symm k3, s2 hq4 hn6.symm hn7.symm k4, z1, z2, z3, z4, z5, z6, s2 hqg hn8.symm hn9.symm k5, s2 hqg hn8.symm hn9.symm k6, s2 hqg hn8.symm hn9.symm k7, s2 hqg hn8.symm hn9.symm k8⟩)
  have HLK := Lib.hid (show ∀ W, Tch (fun b => b = bo) W0 W → (Instr.lookup MapWT (.map (some mp)) (.agg #[.int .i64 (j : Int), .int .i64 1]) false).run Tryd.prog W = .ok (.bool true) W from fun W ht => by
    have := ((HL5.out.kept T0.out hn2.symm).kept ht hn3.symm).look mptW ((j : Int), 1) hx
    rw [HF.out] at this
    exact this)
  have ho0 : W0.cell? ⟨bo, 0, none⟩ = some (.bool true) := T0.out.cell hq2 hn1.symm k2
  have hob := T0.out.blk HL2.out hn1.symm
  have hof : W0.frozen? ⟨bo, 0, none⟩ = false := (one_c hob).2
  have hol := cell_lt ho0
  have hd1 : decide ((j : Int) < (l.length : Int)) = true := decide_eq_true (by omega)
  have hd2 : decide (j < l.length) = true := decide_eq_true hj
  have hjz : (j : Int) < (l.length : Int) := by omega
  have HN := Lib.hid (And.intro b8 (And.intro b9 hm0))
  have eB := HEB.out
  have gb := HGB.out
  clear b8 b9 hm0 k2 k3 k4 k5 k6 k7 k8 hq2 hq3 hq4 hqg hn1 hn2 hn3 hn4 hn5 hn6 hn7 hn8 hn9 k1 f1 hq1 hw1
  refine wp_region_held_drew (S := fun W => Tch (fun b => b = bo) W0 W ∧ W.cell? ⟨bo, 0, none⟩ = some (.bool true)) (by kernel_rfl) ⟨(Tch.refl _ _).drew, ho0⟩ (fun hHeld => ?_)
  (refine wpAnyH_take (i := 0) (v := ?_) rfl (by kernel_rfl) (by kernel_rfl) (by kernel_rfl) (fun _ _ _ h => h) (Or.inl ⟨by rfl, ?rt⟩) (by assumption) ?_; case rt => (intro w hSw; (try dsimp only at hSw); obtain ⟨k1, k2, k3, k4, k5, k6, k7, k8, k9, m1, m2, m3⟩ := HC.out w hSw.1; have hlk := HLK.out w hSw.1; have hok := hSw.2; clear hSw; go_simp; (try with_reducible rfl))); (try simp only [Act.put, List.getElem_toArray, List.getElem_cons_succ, List.getElem_cons_zero, List.setIfInBounds_toArray, List.set_cons_zero, List.set_cons_succ])
  (refine wpAnyH_take (i := 1) (v := ?_) rfl (by kernel_rfl) (by kernel_rfl) (by kernel_rfl) (fun _ _ _ h => h) (Or.inl ⟨by rfl, ?rt⟩) (by assumption) ?_; case rt => (intro w hSw; (try dsimp only at hSw); obtain ⟨k1, k2, k3, k4, k5, k6, k7, k8, k9, m1, m2, m3⟩ := HC.out w hSw.1; have hlk := HLK.out w hSw.1; have hok := hSw.2; clear hSw; go_simp; (try with_reducible rfl))); (try simp only [Act.put, List.getElem_toArray, List.getElem_cons_succ, List.getElem_cons_zero, List.setIfInBounds_toArray, List.set_cons_zero, List.set_cons_succ])
  (refine wpAnyH_take (i := 2) (v := ?_) rfl (by kernel_rfl) (by kernel_rfl) (by kernel_rfl) (fun _ _ _ h => h) (Or.inl ⟨by rfl, ?rt⟩) (by assumption) ?_; case rt => (intro w hSw; (try dsimp only at hSw); obtain ⟨k1, k2, k3, k4, k5, k6, k7, k8, k9, m1, m2, m3⟩ := HC.out w hSw.1; have hlk := HLK.out w hSw.1; have hok := hSw.2; clear hSw; go_simp; (try with_reducible rfl))); (try simp only [Act.put, List.getElem_toArray, List.getElem_cons_succ, List.getElem_cons_zero, List.setIfInBounds_toArray, List.set_cons_zero, List.set_cons_succ])
  (refine wpAnyH_take (i := 3) (v := ?_) rfl (by kernel_rfl) (by kernel_rfl) (by kernel_rfl) (fun _ _ _ h => h) (Or.inl ⟨by rfl, ?rt⟩) (by assumption) ?_; case rt => (intro w hSw; (try dsimp only at hSw); obtain ⟨k1, k2, k3, k4, k5, k6, k7, k8, k9, m1, m2, m3⟩ := HC.out w hSw.1; have hlk := HLK.out w hSw.1; have hok := hSw.2; clear hSw; go_simp; (try with_reducible rfl))); (try simp only [Act.put, List.getElem_toArray, List.getElem_cons_succ, List.getElem_cons_zero, List.setIfInBounds_toArray, List.set_cons_zero, List.set_cons_succ])
  (refine wpAnyH_take (i := 4) (v := ?_) rfl (by kernel_rfl) (by kernel_rfl) (by kernel_rfl) (fun _ _ _ h => h) (Or.inl ⟨by rfl, ?rt⟩) (by assumption) ?_; case rt => (intro w hSw; (try dsimp only at hSw); obtain ⟨k1, k2, k3, k4, k5, k6, k7, k8, k9, m1, m2, m3⟩ := HC.out w hSw.1; have hlk := HLK.out w hSw.1; have hok := hSw.2; clear hSw; go_simp; (try with_reducible rfl))); (try simp only [Act.put, List.getElem_toArray, List.getElem_cons_succ, List.getElem_cons_zero, List.setIfInBounds_toArray, List.set_cons_zero, List.set_cons_succ])
  (refine wpAnyH_take (i := 5) (v := ?_) rfl (by kernel_rfl) (by kernel_rfl) (by kernel_rfl) (fun _ _ _ h => h) (Or.inl ⟨by rfl, ?rt⟩) (by assumption) ?_; case rt => (intro w hSw; (try dsimp only at hSw); obtain ⟨k1, k2, k3, k4, k5, k6, k7, k8, k9, m1, m2, m3⟩ := HC.out w hSw.1; have hlk := HLK.out w hSw.1; have hok := hSw.2; clear hSw; go_simp; (try with_reducible rfl))); (try simp only [Act.put, List.getElem_toArray, List.getElem_cons_succ, List.getElem_cons_zero, List.setIfInBounds_toArray, List.set_cons_zero, List.set_cons_succ])
  (refine wpAnyH_take (i := 6) (v := ?_) rfl (by kernel_rfl) (by kernel_rfl) (by kernel_rfl) (fun _ _ _ h => h) (Or.inl ⟨by rfl, ?rt⟩) (by assumption) ?_; case rt => (intro w hSw; (try dsimp only at hSw); obtain ⟨k1, k2, k3, k4, k5, k6, k7, k8, k9, m1, m2, m3⟩ := HC.out w hSw.1; have hlk := HLK.out w hSw.1; have hok := hSw.2; clear hSw; go_simp; (try with_reducible rfl))); (try simp only [Act.put, List.getElem_toArray, List.getElem_cons_succ, List.getElem_cons_zero, List.setIfInBounds_toArray, List.set_cons_zero, List.set_cons_succ])
  (refine wpAnyH_take (i := 7) (v := ?_) rfl (by kernel_rfl) (by kernel_rfl) (by kernel_rfl) (fun _ _ _ h => h) (Or.inl ⟨by rfl, ?rt⟩) (by assumption) ?_; case rt => (intro w hSw; (try dsimp only at hSw); obtain ⟨k1, k2, k3, k4, k5, k6, k7, k8, k9, m1, m2, m3⟩ := HC.out w hSw.1; have hlk := HLK.out w hSw.1; have hok := hSw.2; clear hSw; go_simp; (try with_reducible rfl))); (try simp only [Act.put, List.getElem_toArray, List.getElem_cons_succ, List.getElem_cons_zero, List.setIfInBounds_toArray, List.set_cons_zero, List.set_cons_succ])
  (refine wpAnyH_take (i := 8) (v := ?_) rfl (by kernel_rfl) (by kernel_rfl) (by kernel_rfl) (fun _ _ _ h => h) (Or.inl ⟨by rfl, ?rt⟩) (by assumption) ?_; case rt => (intro w hSw; (try dsimp only at hSw); obtain ⟨k1, k2, k3, k4, k5, k6, k7, k8, k9, m1, m2, m3⟩ := HC.out w hSw.1; have hlk := HLK.out w hSw.1; have hok := hSw.2; clear hSw; go_simp; (try with_reducible rfl))); (try simp only [Act.put, List.getElem_toArray, List.getElem_cons_succ, List.getElem_cons_zero, List.setIfInBounds_toArray, List.set_cons_zero, List.set_cons_succ])
  (refine wpAnyH_take (i := 9) (v := ?_) rfl (by kernel_rfl) (by kernel_rfl) (by kernel_rfl) (fun _ _ _ h => h) (Or.inl ⟨by rfl, ?rt⟩) (by assumption) ?_; case rt => (intro w hSw; (try dsimp only at hSw); obtain ⟨k1, k2, k3, k4, k5, k6, k7, k8, k9, m1, m2, m3⟩ := HC.out w hSw.1; have hlk := HLK.out w hSw.1; have hok := hSw.2; clear hSw; go_simp; (try with_reducible rfl))); (try simp only [Act.put, List.getElem_toArray, List.getElem_cons_succ, List.getElem_cons_zero, List.setIfInBounds_toArray, List.set_cons_zero, List.set_cons_succ])
  (refine wpAnyH_take (i := 10) (v := ?_) rfl (by kernel_rfl) (by kernel_rfl) (by kernel_rfl) (fun _ _ _ h => h) (Or.inl ⟨by rfl, ?rt⟩) (by assumption) ?_; case rt => (intro w hSw; (try dsimp only at hSw); obtain ⟨k1, k2, k3, k4, k5, k6, k7, k8, k9, m1, m2, m3⟩ := HC.out w hSw.1; have hlk := HLK.out w hSw.1; have hok := hSw.2; clear hSw; go_simp; (try with_reducible rfl))); (try simp only [Act.put, List.getElem_toArray, List.getElem_cons_succ, List.getElem_cons_zero, List.setIfInBounds_toArray, List.set_cons_zero, List.set_cons_succ])
  (refine wpAnyH_take (i := 11) (v := ?_) rfl (by kernel_rfl) (by kernel_rfl) (by kernel_rfl) (fun _ _ _ h => h) (Or.inl ⟨by rfl, ?rt⟩) (by assumption) ?_; case rt => (intro w hSw; (try dsimp only at hSw); obtain ⟨k1, k2, k3, k4, k5, k6, k7, k8, k9, m1, m2, m3⟩ := HC.out w hSw.1; have hlk := HLK.out w hSw.1; have hok := hSw.2; clear hSw; go_simp; (try with_reducible rfl))); (try simp only [Act.put, List.getElem_toArray, List.getElem_cons_succ, List.getElem_cons_zero, List.setIfInBounds_toArray, List.set_cons_zero, List.set_cons_succ])
  (try simp only [hd1, hd2])
  (refine wpAnyH_take (i := 12) (v := ?_) rfl (by kernel_rfl) (by kernel_rfl) (by kernel_rfl) (fun _ _ _ h => h) (Or.inl ⟨by rfl, ?rt⟩) (by assumption) ?_; case rt => (intro w hSw; (try dsimp only at hSw); obtain ⟨k1, k2, k3, k4, k5, k6, k7, k8, k9, m1, m2, m3⟩ := HC.out w hSw.1; have hlk := HLK.out w hSw.1; have hok := hSw.2; clear hSw; go_simp; (try with_reducible rfl))); (try simp only [Act.put, List.getElem_toArray, List.getElem_cons_succ, List.getElem_cons_zero, List.setIfInBounds_toArray, List.set_cons_zero, List.set_cons_succ])
  (refine wpAnyH_take (i := 13) (v := ?_) rfl (by kernel_rfl) (by kernel_rfl) (by kernel_rfl) (fun _ _ _ h => h) (Or.inl ⟨by rfl, ?rt⟩) (by assumption) ?_; case rt => (intro w hSw; (try dsimp only at hSw); obtain ⟨k1, k2, k3, k4, k5, k6, k7, k8, k9, m1, m2, m3⟩ := HC.out w hSw.1; have hlk := HLK.out w hSw.1; have hok := hSw.2; clear hSw; go_simp; (try with_reducible rfl))); (try simp only [Act.put, List.getElem_toArray, List.getElem_cons_succ, List.getElem_cons_zero, List.setIfInBounds_toArray, List.set_cons_zero, List.set_cons_succ])
  (refine wpAnyH_take (i := 14) (v := ?_) rfl (by kernel_rfl) (by kernel_rfl) (by kernel_rfl) (fun _ _ _ h => h) (Or.inl ⟨by rfl, ?rt⟩) (by assumption) ?_; case rt => (intro w hSw; (try dsimp only at hSw); obtain ⟨k1, k2, k3, k4, k5, k6, k7, k8, k9, m1, m2, m3⟩ := HC.out w hSw.1; have hlk := HLK.out w hSw.1; have hok := hSw.2; clear hSw; go_simp; (try with_reducible rfl))); (try simp only [Act.put, List.getElem_toArray, List.getElem_cons_succ, List.getElem_cons_zero, List.setIfInBounds_toArray, List.set_cons_zero, List.set_cons_succ])
  (refine wpAnyH_take (i := 15) (v := ?_) rfl (by kernel_rfl) (by kernel_rfl) (by kernel_rfl) (fun _ _ _ h => h) (Or.inl ⟨by rfl, ?rt⟩) (by assumption) ?_; case rt => (intro w hSw; (try dsimp only at hSw); obtain ⟨k1, k2, k3, k4, k5, k6, k7, k8, k9, m1, m2, m3⟩ := HC.out w hSw.1; have hlk := HLK.out w hSw.1; have hok := hSw.2; clear hSw; go_simp; (try with_reducible rfl))); (try simp only [Act.put, List.getElem_toArray, List.getElem_cons_succ, List.getElem_cons_zero, List.setIfInBounds_toArray, List.set_cons_zero, List.set_cons_succ])
  (refine wpAnyH_take (i := 16) (v := ?_) rfl (by kernel_rfl) (by kernel_rfl) (by kernel_rfl) (fun _ _ _ h => h) (Or.inl ⟨by rfl, ?rt⟩) (by assumption) ?_; case rt => (intro w hSw; (try dsimp only at hSw); obtain ⟨k1, k2, k3, k4, k5, k6, k7, k8, k9, m1, m2, m3⟩ := HC.out w hSw.1; have hlk := HLK.out w hSw.1; have hok := hSw.2; clear hSw; go_simp; (try with_reducible rfl))); (try simp only [Act.put, List.getElem_toArray, List.getElem_cons_succ, List.getElem_cons_zero, List.setIfInBounds_toArray, List.set_cons_zero, List.set_cons_succ])
  (refine wpAnyH_take (i := 17) (v := ?_) rfl (by kernel_rfl) (by kernel_rfl) (by kernel_rfl) (fun _ _ _ h => h) (Or.inl ⟨by rfl, ?rt⟩) (by assumption) ?_; case rt => (intro w hSw; (try dsimp only at hSw); obtain ⟨k1, k2, k3, k4, k5, k6, k7, k8, k9, m1, m2, m3⟩ := HC.out w hSw.1; have hlk := HLK.out w hSw.1; have hok := hSw.2; clear hSw; go_simp; (try with_reducible rfl))); (try simp only [Act.put, List.getElem_toArray, List.getElem_cons_succ, List.getElem_cons_zero, List.setIfInBounds_toArray, List.set_cons_zero, List.set_cons_succ])
  (refine wpAnyH_take (i := 18) (v := ?_) rfl (by kernel_rfl) (by kernel_rfl) (by kernel_rfl) (fun _ _ _ h => h) (Or.inl ⟨by rfl, ?rt⟩) (by assumption) ?_; case rt => (intro w hSw; (try dsimp only at hSw); obtain ⟨k1, k2, k3, k4, k5, k6, k7, k8, k9, m1, m2, m3⟩ := HC.out w hSw.1; have hlk := HLK.out w hSw.1; have hok := hSw.2; clear hSw; go_simp; (try with_reducible rfl))); (try simp only [Act.put, List.getElem_toArray, List.getElem_cons_succ, List.getElem_cons_zero, List.setIfInBounds_toArray, List.set_cons_zero, List.set_cons_succ])
  (refine wpAnyH_take (i := 19) (v := ?_) rfl (by kernel_rfl) (by kernel_rfl) (by kernel_rfl) (fun _ _ _ h => h) (Or.inl ⟨by rfl, ?rt⟩) (by assumption) ?_; case rt => (intro w hSw; (try dsimp only at hSw); obtain ⟨k1, k2, k3, k4, k5, k6, k7, k8, k9, m1, m2, m3⟩ := HC.out w hSw.1; have hlk := HLK.out w hSw.1; have hok := hSw.2; clear hSw; go_simp; (try with_reducible rfl))); (try simp only [Act.put, List.getElem_toArray, List.getElem_cons_succ, List.getElem_cons_zero, List.setIfInBounds_toArray, List.set_cons_zero, List.set_cons_succ])
  (refine wpAnyH_take (i := 20) (v := ?_) rfl (by kernel_rfl) (by kernel_rfl) (by kernel_rfl) (fun _ _ _ h => h) (Or.inl ⟨by rfl, ?rt⟩) (by assumption) ?_; case rt => (intro w hSw; (try dsimp only at hSw); obtain ⟨k1, k2, k3, k4, k5, k6, k7, k8, k9, m1, m2, m3⟩ := HC.out w hSw.1; have hlk := HLK.out w hSw.1; have hok := hSw.2; clear hSw; go_simp; (try with_reducible rfl))); (try simp only [Act.put, List.getElem_toArray, List.getElem_cons_succ, List.getElem_cons_zero, List.setIfInBounds_toArray, List.set_cons_zero, List.set_cons_succ])
  (refine wpAnyH_take (i := 21) (v := ?_) rfl (by kernel_rfl) (by kernel_rfl) (by kernel_rfl) (fun _ _ _ h => h) (Or.inl ⟨by rfl, ?rt⟩) (by assumption) ?_; case rt => (intro w hSw; (try dsimp only at hSw); obtain ⟨k1, k2, k3, k4, k5, k6, k7, k8, k9, m1, m2, m3⟩ := HC.out w hSw.1; have hlk := HLK.out w hSw.1; have hok := hSw.2; clear hSw; go_simp; (try with_reducible rfl))); (try simp only [Act.put, List.getElem_toArray, List.getElem_cons_succ, List.getElem_cons_zero, List.setIfInBounds_toArray, List.set_cons_zero, List.set_cons_succ])
  (refine wpAnyH_ready (rs := [22]) (by kernel_rfl) (by simp) ?_; refine AllReadyH.cons rfl (fun K hK => ?_) AllReadyH.nil; go_simp)
  have T1 := Lib.hid (show Tch (fun b => b = bo) W0 (W0.setCell ⟨bo, 0, none⟩ (.bool true)).drew from (Tch.set W0 (M := fun b => b = bo) rfl _).drew)
  refine hK.out _ _ ⟨T1.out, by go_simp⟩ (fun hHeld => ?_)
  clear hK K
  (try simp only [Act.put, List.getElem_toArray, List.getElem_cons_succ, List.getElem_cons_zero, List.setIfInBounds_toArray, List.set_cons_zero, List.set_cons_succ])
  refine wpAnyH_done (by kernel_rfl) ?_ _
  have hob1 : (W0.setCell ⟨bo, 0, none⟩ (.bool true)).drew.heap[bo]? = some (.cells #[.bool true] 4 (0, 0)) := by
    have e := heap_setCell_same W0 bo 0 #[.bool true] 4 (.bool true) hob
    have e2 : (W0.setCell ⟨bo, 0, none⟩ (.bool true)).heap[bo]? = some (.cells #[.bool true] 4 (0, 0)) := by simpa using e
    exact e2
  generalize (W0.setCell ⟨bo, 0, none⟩ (.bool true)).drew = W1 at *
  obtain ⟨hn1, hn2, hn3, hn4, hn5, hn6, hn7, hn8, hn9⟩ := HNN.out
  obtain ⟨k1, k2, k3, k4, _⟩ := HC.out W1 T1.out
  have hk1 := cell_lt k1
  have hk3 := cell_lt k3
  obtain ⟨w2, hrun, hm2, hg2⟩ := ((HL5.out.kept T0.out hn2.symm).kept T1.out hn3.symm).del mptW ((j : Int), 1) hx 0
  unfold mH at hrun
  dsimp only at hrun
  have M2 := Lib.hid hm2
  have T2 : Hid (Tch (fun b => b = mp) W1 w2) := Lib.hid ⟨hg2.os, hg2.tape, hg2.output, hg2.size, fun k hk hn => hg2.block k hk (fun e => by cases e; exact hn rfl)⟩
  have HM2 := Lib.hid (show Law bm bo bw b3 mp g o cap l (m + 1) (c - 1) (fun z => if z = ((j : Int), 1) then none else f z) w2 from by
    obtain ⟨b8, b9, hm0⟩ := HN.out
    refine ⟨?_, T2.out.blk hob1 hn3, ?_, ?_, ?_, ?_⟩
    · have := T2.out.blk (T1.out.blk hm0 hn1) hn2
      rw [show ((m + 1 : Nat) : Int) = (m : Int) + 1 from by omega]
      exact this
    · exact T2.out.blk (T1.out.blk (T0.out.blk HL3.out hn4.symm) hn5.symm) (fun e => (MapG.is HL5.out).elim fun es h => h.elim fun c' h => by rw [← e, HL3.out] at h; cases h)
    · exact T2.out.blk (T1.out.blk (T0.out.blk HL4.out hn6.symm) hn7.symm) (fun e => (MapG.is HL5.out).elim fun es h => h.elim fun c' h => by rw [← e, HL4.out] at h; cases h)
    · have := M2.out
      rw [HF.out] at this
      exact this
    · intro j' u hu
      have h1 := HL6.out j' u hu
      have hgl := cell_lt h1
      refine T2.out.cell (T1.out.lt (T0.out.lt hgl)) (fun e => ?_) (T1.out.cell (T0.out.lt hgl) hn9.symm (T0.out.cell hgl hn8.symm h1))
      obtain ⟨es, c', h⟩ := MapG.is HL5.out
      rw [← e] at h
      unfold World.cell? at h1
      rw [h] at h1
      cases h1)
  have HT := Lib.hid (show Tch (fun b => b = bm ∨ b = bo ∨ b = mp) w w2 from ((T0.out.mono (fun b e => Or.inl e)).more (T1.out.mono (fun b e => Or.inr (Or.inl e)))).more (T2.out.mono (fun b e => Or.inr (Or.inr e))))
  clear hm2 hg2 HC HLK HN HL1 HL2 HL3 HL4 HL5 HL6 M2 T0 T1 T2 eB gb hob hob1 ho0 hof hol hHeld
  go_wp2
  go_end0
  exact ⟨⟨_, rfl⟩, HM2.out, HT.out⟩
end Go.Proofs.YtlnncnbahmgpfaaDoor
