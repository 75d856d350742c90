/-
  Package axis: a sweep's Pairs.
-/
import Derived.Test.YtbodefigeiaodaaDoorSm11
namespace Go.Proofs.YtbodefigeiaodaaDoor
set_option linter.unusedSimpArgs false
set_option linter.unusedVariables false
open Go.RowKit Go.Sort Go.Lib Go.Shelf Go.Maps

def colF (K : List Pr) (pre : List OkPr) : List Pr := (pre.map (fun x => x.1)).filter fun q => hasK K q.1 q.2
theorem colF_snoc (K : List Pr) (pre : List OkPr) (x : OkPr) : colF K (pre ++ [x]) = colF K pre ++ (if hasK K x.1.1 x.1.2 = true then [x.1] else []) := by
  unfold colF
  rw [List.map_append, List.filter_append]
  congr 1
  cases h : hasK K x.1.1 x.1.2 <;> simp [h]
theorem colF_len (K : List Pr) (pre : List OkPr) : (colF K pre).length ≤ pre.length := by
  unfold colF
  refine Nat.le_trans (List.length_filter_le _ _) ?_
  simp
/-- Between two rounds: the pairs that have come and are in the other set too. -/
def IColF (n0 : Nat) (w : World) (K : List Pr) (pre : List OkPr) (W : World) : Prop := ICol n0 w (colF K pre) W
theorem icolf_own {n0 B : Nat} {w : World} {K : List Pr} (hn : n0 ≤ w.heap.size) (hB : n0 ≤ B) : OwnFrom B (IColF n0 w K) := fun s W W' row hs hg hr => icol_own hn hB (colF K s) W W' row hs hg hr

theorem own_put {base : Nat} {w : World} {v : Value} {l : List Pr} {D : Nat} {x : Option (List Deferred)} (h : Own base encP 4 w v l) (hD : w.heap[D]? = some (.deferred x)) (o : Obj) : Own base encP 4 (w.putObj D o) v l := by
  obtain ⟨p, cap, rfl, h1, h2, h3⟩ := h
  refine ⟨p, cap, rfl, h1, h2, fun hl => ?_⟩
  obtain ⟨g, rfl, hb, hg, hH⟩ := h3 hl
  have hne : g ≠ D := fun e => by
    have := Go.Sort.HoldsK.cell hH (i := 0) (by simpa using hl) (show 0 < 4 by omega)
    subst e
    simp [World.cell?, hD] at this
  refine ⟨g, rfl, hb, by simpa [World.putObj] using hg, fun j hj => ?_⟩
  have h5 := hH j hj
  have hbk : (w.putObj D o).heap[g]? = w.heap[g]? := World.putObj_heap_other hne
  have e1 : ∀ a : Addr, a.block = g → (w.putObj D o).cell? a = w.cell? a := fun a ha => World.cell?_of_block (by rw [ha]; exact hbk)
  have e2 : ∀ a : Addr, a.block = g → (w.putObj D o).frozen? a = w.frozen? a := fun a ha => World.frozen?_of_block (by rw [ha]; exact hbk)
  simpa [e1, e2] using h5

attribute [local go_sem] Oper.semAt_some
section
variable {ps : Nat} {B : List Bxd} {M : Nat → Prop} {w : World}
set_option maxHeartbeats 4000000 in
set_option maxRecDepth 100000 in
theorem pairsS_call (hp : SwAt w M ps B) (hlen : B.length ≤ 100) :
    Calls Tryd.prog 31 #[.pointer (some ⟨ps, 0, none⟩)] w fun e w' => ∃ v', e = .returned v' ∧ Own w.heap.size encP 4 w' v' (pairsB B) ∧ RowKit.Below w.heap.size w w' := by
  obtain ⟨px, py, Mx, My, ⟨h1, h2⟩, h3, h4, ⟨mx, sx, vx, Kx, hIx, hKx, hox, hokx⟩, ⟨my, sy, vy, Ky, hIy, hKy, _, _⟩⟩ := hp
  have hoB := OnceB.of_x hox
  have hKl : Kx.length ≤ 10000 := by
    have h1 := PM.len hKx.1 (fun q hq => (hKx.2 q).1 hq)
    rw [List.length_map] at h1
    have h2 := Nat.mul_le_mul hlen hlen
    omega
  have HSS : Hid (∀ ys : List OkPr, KeysOf (prF Kx) (ys.map (fun x => x.1)) → srt ltP (rightOnes (colF Ky ys)) = pairsB B) := fun ys hks => pairsB_of fun q => by
    unfold colF
    rw [List.mem_filter, ← both_PMB hoB, ← hKx.2, ← hKy.2]
    constructor
    · rintro ⟨hq, hh⟩
      have h1 := (hks.2.1 q (hks.2.2 q hq)).1 hq
      rw [prF_some] at h1
      have h2 := of_decide_eq_true h1
      refine ⟨h2, ?_⟩
      unfold hasK at hh
      have h3 := (of_decide_eq_true hh).2
      obtain ⟨a, ha, b, hb, hne, _, e⟩ := (hKx.2 q).1 h2
      rw [e] at h3 ⊢
      rwa [norm_norm hne] at h3
    · rintro ⟨hq, hq2⟩
      obtain ⟨a, ha, b, hb, hne, hm, e⟩ := (hKx.2 q).1 hq
      refine ⟨(hks.2.1 q (by rw [e]; exact norm_ok (hokx a ha) (hokx b hb))).2 (by rw [prF_some]; exact decide_eq_true hq), ?_⟩
      unfold hasK
      refine decide_eq_true ⟨by rw [e]; exact norm_ne hne, ?_⟩
      have : norm (q.1, q.2) = q := by rw [e]; exact norm_norm hne
      rw [this]
      exact hq2
  have HA := Lib.hid (fun W => all_call (w := W) mx)
  have JY := Lib.hid (fun (x : OkPr) W (hW : RowKit.Below w.heap.size w W) => joined_call x.1.1.1 x.1.1.2 x.1.2.1 x.1.2.2 x.2.1 x.2.2 (hIy.2.1.below hW) hKy.zero)
  unfold mpV at HA JY
  have HM := Lib.hid hIx.2.1
  have H1 := Lib.hid (And.intro h1 (And.intro hIx.head hIy.head))
  clear h1 h2 h3 h4 hIx hIy hKx hKy hox hokx hoB
  refine callsIn_wide (n := 6).1 ?_
  refine callsIn_of_wp_marks Tryd.func31 rfl trivial ?_ rfl
  simp only [Tryd.ntmps31, List.size_toArray, List.length_cons, List.length_nil, Nat.reduceAdd, Nat.reduceSub, Array.replicate_succ, Array.replicate_zero, List.push_toArray, List.append_toArray, List.nil_append, List.cons_append]
  obtain ⟨w0, hw0⟩ : ∃ w0, w0 = w.alloc (.cells #[.pointer (some ⟨ps, 0, none⟩)] 57) := ⟨_, rfl⟩
  obtain ⟨w1, hw1⟩ : ∃ w1, w1 = w0.alloc (.cells #[.slice none 0 0] 50) := ⟨_, rfl⟩
  have b0 : RowKit.Below w.heap.size w w0 := by rw [hw0]; exact Ba (Below.refl _ w) _
  have b01 : RowKit.Below w0.heap.size w0 w1 := by rw [hw1]; exact Ba (Below.refl _ w0) _
  have k0 : w0.heap[w.heap.size]? = some (.cells #[.pointer (some ⟨ps, 0, none⟩)] 57 (0, 0)) := by rw [hw0]; exact heap_alloc_new w _
  have bO : Boxed w1 w0.heap.size 50 (.slice none 0 0) := by rw [hw1]; exact Boxed.new w0 50 (.slice none 0 0)
  have hsz0 : w0.heap.size = w.heap.size + 1 := by rw [hw0]; simp
  have hsz1 : w1.heap.size = w.heap.size + 2 := by rw [hw1]; simp; omega
  obtain ⟨c0, c1, _⟩ := two_cells (blk_below H1.out.1 (Bt b0 b01))
  obtain ⟨⟨f0, _, _⟩, _⟩ := three_cells (blk_below H1.out.2.1 (Bt b0 b01))
  have a0 := (one_cell (blk_below k0 b01)).1
  have l0 := cell_lt c0
  have l3 := cell_lt f0
  unfold psP at c0 c1
  have B0 := Lib.hid (And.intro b0 (And.intro b01 k0))
  have BO := Lib.hid bO
  have hwn := World.ownsRow_nil w1 w0.heap.size 68 4
  clear b0 b01 k0 bO
  have HW := Lib.hid (And.intro hw0 hw1)
  rw [hw1, hw0] at c0 c1 f0 a0 l0 l3
  clear hw0 hw1
  gi_wp2_with fail
  refine ⟨trivial, callsIn_wide.2 ((HA.out _).mono ?_)⟩
  rintro e w2 ⟨Bm, rfl, hcm, hb2⟩
  rw [← HW.out.1, ← HW.out.2] at hb2
  have HB2 := Lib.hid hb2
  have hs2 : w1.heap.size ≤ w2.heap.size := hb2.size
  have hseq := Lib.hid (keysOk_stops Fence.wide 5 trivial rfl (by omega) Bm mx Kx.length (prF Kx) w2 (cell_lt hcm) hcm (HM.out.below (Bt (Bt B0.out.1 B0.out.2.1) hb2)))
  have BO2 := Lib.hid (blk_below (show w1.heap[w0.heap.size]? = _ from BO.out) hb2)
  have R2 := Lib.hid (row_below hwn hb2)
  have KB := Lib.hid (And.intro (blk_below B0.out.2.2 (Bt B0.out.2.1 hb2)) (And.intro (blk_below H1.out.1 (Bt (Bt B0.out.1 B0.out.2.1) hb2)) (blk_below H1.out.2.2 (Bt (Bt B0.out.1 B0.out.2.1) hb2))))
  have BB := Lib.hid (Bt B0.out.2.1 hb2)
  have hn0 : w.heap.size + 1 = w0.heap.size := by omega
  rw [hn0]
  have HSZ := Lib.hid (And.intro hsz0 (And.intro hsz1 hs2))
  clear hcm hb2 c0 c1 f0 a0 l0 l3 hwn hn0 hsz0 hsz1 hs2
  gi_wp2_with fail
  refine wpIn_rangeFunc_ownH (α := OkPr) rfl (by omega) (gf := KeysF) (lb := #[.pointer (some ⟨Bm, 0, none⟩)]) rfl trivial (enters_of Tryd.func77 (by kernel_rfl) rfl)
    (seqStopsA_iff.1 (seqStops_iff.1 hseq.out)) walksK_t walksK_b (Below.refl _ _) (fun _ => rfl)
    (IColF w0.heap.size w0 Ky)
    (fun _ _ _ => False)
    (icolf_own (Nat.le_refl _) BB.out.size)
    (fun _ _ _ _ _ hs _ _ => hs)
    ⟨⟨_, BO2.out, R2.out⟩, BB.out⟩
    (fun z a' W => AxP (w0.heap.size + 1) (fun Bx q => { tmps := #[.pointer (some ⟨ps, 0, none⟩), .pointer (some ⟨w.heap.size, 0, none⟩), .slice none 0 0, .pointer (some ⟨w0.heap.size, 0, none⟩), .pointer (some ⟨Bx, 0, none⟩), .pointer (some ⟨ps, 0, none⟩), .pointer (some ⟨ps, 0, none⟩), .pointer (some ⟨ps, 0, none⟩), .pointer (some ⟨px, 0, none⟩), .pointer (some ⟨px, 0, none⟩), .pointer (some ⟨px, 0, none⟩), .agg #[.map (some mx)], .func (.func KeysF) #[] #[.pointer (some ⟨Bm, 0, none⟩)], mP q, undef, undef, undef, undef, undef, undef, undef, undef, undef, undef, undef, undef, undef, undef, undef, undef, undef, undef], defers := [] }) z.1 a' W)
    (fun z a' => axp_own) ?assign ?body ?done ?stop
  case assign =>
    intro l pre z W K1 hI hK1
    unfold mP at hK1 ⊢
    have hsW : w0.heap.size + 1 ≤ W.heap.size := hI.1.choose_spec.1.lt
    gi_wp2
    refine hK1 _ _ ((KeepsOthers.alloc W _).from _) (KeepsWalks.alloc W _) (ICol.bel hI (Ba (Below.refl _ W) _) hI.2.size) ⟨W.heap.size, hsW, heap_alloc_new W _, rfl⟩
  case body =>
    rintro l pre z a' W hl ⟨r, hr⟩ ⟨⟨v, hv, hrow⟩, hB⟩ ⟨Bx, hBx, hbx, rfl⟩ hlt
    have hsn := colF_snoc Ky pre z
    have hcl := colF_len Ky pre
    have JZ := Lib.hid (JY.out z)
    obtain ⟨⟨⟨z1, z2⟩, z3, z4⟩, hz⟩ := z
    unfold mP
    dsimp only at hbx JZ hsn ⊢
    have hsz := HSZ.out
    have e1 : W.cell? ⟨Bx, 0, none⟩ = some (.int .i64 z1) := by simp [World.cell?, hbx]
    have e2 : W.cell? ⟨Bx, 1, none⟩ = some (.int .i64 z2) := by simp [World.cell?, hbx]
    have e3 : W.cell? ⟨Bx, 2, none⟩ = some (.int .i64 z3) := by simp [World.cell?, hbx]
    have e4 : W.cell? ⟨Bx, 3, none⟩ = some (.int .i64 z4) := by simp [World.cell?, hbx]
    have hps : ps < w.heap.size := (Array.getElem?_eq_some_iff.1 H1.out.1).1
    have hpy : py < w.heap.size := (Array.getElem?_eq_some_iff.1 H1.out.2.2).1
    have a0 := (one_cell ((hB.block w.heap.size (by omega)).trans B0.out.2.2)).1
    obtain ⟨_, c1, _⟩ := two_cells ((hB.block ps (by omega)).trans (blk_below H1.out.1 B0.out.1))
    obtain ⟨⟨g0, _, _⟩, _⟩ := three_cells ((hB.block py (by omega)).trans (blk_below H1.out.2.2 B0.out.1))
    unfold psP at c1
    have l0 := cell_lt a0
    have l1 := cell_lt c1
    have l2 := cell_lt g0
    have l4 := cell_lt e1
    have hbW : RowKit.Below w.heap.size w W := B0.out.1.trans (hB.mono (by omega))
    have JZ2 := Lib.hid (JZ.out W.drew (Bd hbW))
    have HV := Lib.hid (And.intro hv (And.intro hrow hB))
    have HSN := Lib.hid hsn
    have HHB := Lib.hid hbx
    have hcl2 : (colF Ky pre).length ≤ 10000 := by omega
    have hn01 : w0.heap.size ≠ Bx := by omega
    clear hv hrow hB hbW hsn hbx hr hsz JZ
    generalize hasK Ky (z1, z2) (z3, z4) = bb at *
    have HBX : Hid (w0.heap.size + 1 ≤ Bx) := hBx
    clear hBx
    gi_wp2_with fail
    refine wpIn_region_round (S := fun W2 => W2.cell? ⟨w.heap.size, 0, none⟩ = some (.pointer (some ⟨ps, 0, none⟩)) ∧ W2.cell? ⟨ps, 1, none⟩ = some (.pointer (some ⟨py, 0, none⟩)) ∧ W2.cell? ⟨py, 0, none⟩ = some (.map (some my)) ∧ (W2.cell? ⟨Bx, 0, none⟩ = some (.int .i64 z1) ∧ W2.cell? ⟨Bx, 1, none⟩ = some (.int .i64 z2)) ∧ W2.cell? ⟨Bx, 2, none⟩ = some (.int .i64 z3) ∧ W2.cell? ⟨Bx, 3, none⟩ = some (.int .i64 z4)) (by kernel_rfl) (by rintro ⟨_, _, q⟩; exact q) (by kernel_rfl) ⟨a0, c1, g0, ⟨e1, e2⟩, e3, e4⟩ (fun hHeld => ?_)
    (refine wpAnyH_take (i := 0) (v := ?_) rfl (by kernel_rfl) (by kernel_rfl) (by kernel_rfl) (fun _ _ _ h => h) (Or.inl ⟨by rfl, ?rt⟩) (by assumption) ?_; case rt => (intro w hSw; (try dsimp only at hSw); go_simp; (try with_reducible rfl))); (try simp only [Act.put, List.getElem_toArray, List.getElem_cons_succ, List.getElem_cons_zero, List.setIfInBounds_toArray, List.set_cons_zero, List.set_cons_succ])
    (refine wpAnyH_take (i := 1) (v := ?_) rfl (by kernel_rfl) (by kernel_rfl) (by kernel_rfl) (fun _ _ _ h => h) (Or.inl ⟨by rfl, ?rt⟩) (by assumption) ?_; case rt => (intro w hSw; (try dsimp only at hSw); go_simp; (try with_reducible rfl))); (try simp only [Act.put, List.getElem_toArray, List.getElem_cons_succ, List.getElem_cons_zero, List.setIfInBounds_toArray, List.set_cons_zero, List.set_cons_succ])
    (refine wpAnyH_take (i := 2) (v := ?_) rfl (by kernel_rfl) (by kernel_rfl) (by kernel_rfl) (fun _ _ _ h => h) (Or.inl ⟨by rfl, ?rt⟩) (by assumption) ?_; case rt => (intro w hSw; (try dsimp only at hSw); go_simp; (try with_reducible rfl))); (try simp only [Act.put, List.getElem_toArray, List.getElem_cons_succ, List.getElem_cons_zero, List.setIfInBounds_toArray, List.set_cons_zero, List.set_cons_succ])
    (refine wpAnyH_take (i := 3) (v := ?_) rfl (by kernel_rfl) (by kernel_rfl) (by kernel_rfl) (fun _ _ _ h => h) (Or.inl ⟨by rfl, ?rt⟩) (by assumption) ?_; case rt => (intro w hSw; (try dsimp only at hSw); go_simp; (try with_reducible rfl))); (try simp only [Act.put, List.getElem_toArray, List.getElem_cons_succ, List.getElem_cons_zero, List.setIfInBounds_toArray, List.set_cons_zero, List.set_cons_succ])
    (refine wpAnyH_take (i := 4) (v := ?_) rfl (by kernel_rfl) (by kernel_rfl) (by kernel_rfl) (fun _ _ _ h => h) (Or.inl ⟨by rfl, ?rt⟩) (by assumption) ?_; case rt => (intro w hSw; (try dsimp only at hSw); go_simp; (try with_reducible rfl))); (try simp only [Act.put, List.getElem_toArray, List.getElem_cons_succ, List.getElem_cons_zero, List.setIfInBounds_toArray, List.set_cons_zero, List.set_cons_succ])
    (refine wpAnyH_take (i := 5) (v := ?_) rfl (by kernel_rfl) (by kernel_rfl) (by kernel_rfl) (fun _ _ _ h => h) (Or.inl ⟨by rfl, ?rt⟩) (by assumption) ?_; case rt => (intro w hSw; (try dsimp only at hSw); go_simp; (try with_reducible rfl))); (try simp only [Act.put, List.getElem_toArray, List.getElem_cons_succ, List.getElem_cons_zero, List.setIfInBounds_toArray, List.set_cons_zero, List.set_cons_succ])
    (refine wpAnyH_take (i := 6) (v := ?_) rfl (by kernel_rfl) (by kernel_rfl) (by kernel_rfl) (fun _ _ _ h => h) (Or.inl ⟨by rfl, ?rt⟩) (by assumption) ?_; case rt => (intro w hSw; (try dsimp only at hSw); go_simp; (try with_reducible rfl))); (try simp only [Act.put, List.getElem_toArray, List.getElem_cons_succ, List.getElem_cons_zero, List.setIfInBounds_toArray, List.set_cons_zero, List.set_cons_succ])
    (refine wpAnyH_take (i := 7) (v := ?_) rfl (by kernel_rfl) (by kernel_rfl) (by kernel_rfl) (fun _ _ _ h => h) (Or.inl ⟨by rfl, ?rt⟩) (by assumption) ?_; case rt => (intro w hSw; (try dsimp only at hSw); go_simp; (try with_reducible rfl))); (try simp only [Act.put, List.getElem_toArray, List.getElem_cons_succ, List.getElem_cons_zero, List.setIfInBounds_toArray, List.set_cons_zero, List.set_cons_succ])
    (refine wpAnyH_take (i := 8) (v := ?_) rfl (by kernel_rfl) (by kernel_rfl) (by kernel_rfl) (fun _ _ _ h => h) (Or.inl ⟨by rfl, ?rt⟩) (by assumption) ?_; case rt => (intro w hSw; (try dsimp only at hSw); go_simp; (try with_reducible rfl))); (try simp only [Act.put, List.getElem_toArray, List.getElem_cons_succ, List.getElem_cons_zero, List.setIfInBounds_toArray, List.set_cons_zero, List.set_cons_succ])
    (refine wpAnyH_take (i := 9) (v := ?_) rfl (by kernel_rfl) (by kernel_rfl) (by kernel_rfl) (fun _ _ _ h => h) (Or.inl ⟨by rfl, ?rt⟩) (by assumption) ?_; case rt => (intro w hSw; (try dsimp only at hSw); go_simp; (try with_reducible rfl))); (try simp only [Act.put, List.getElem_toArray, List.getElem_cons_succ, List.getElem_cons_zero, List.setIfInBounds_toArray, List.set_cons_zero, List.set_cons_succ])
    (refine wpAnyH_take (i := 10) (v := ?_) rfl (by kernel_rfl) (by kernel_rfl) (by kernel_rfl) (fun _ _ _ h => h) (Or.inl ⟨by rfl, ?rt⟩) (by assumption) ?_; case rt => (intro w hSw; (try dsimp only at hSw); go_simp; (try with_reducible rfl))); (try simp only [Act.put, List.getElem_toArray, List.getElem_cons_succ, List.getElem_cons_zero, List.setIfInBounds_toArray, List.set_cons_zero, List.set_cons_succ])
    refine wpAnyH_ready (rs := [11]) (by kernel_rfl) (by simp) ?_
    refine AllReadyH.cons rfl (fun K hK => ?_) AllReadyH.nil
    go_simp
    refine JZ2.out.mono ?_
    rintro e w7 ⟨rfl, hb7⟩
    refine hK.out _ _ ⟨Bc hb7 l0 a0, Bc hb7 l1 c1, Bc hb7 l2 g0, ⟨Bc hb7 l4 e1, Bc hb7 l4 e2⟩, Bc hb7 l4 e3, Bc hb7 l4 e4⟩ (fun hHeld => ?_); clear hK K; (try simp only [Act.put, List.getElem_toArray, List.getElem_cons_succ, List.getElem_cons_zero, List.setIfInBounds_toArray, List.set_cons_zero, List.set_cons_succ])
    refine wpAnyH_done (by kernel_rfl) ?_ _
    clear hHeld
    have hb8 : RowKit.Below W.heap.size W w7 := Bt (Bd (Below.refl _ W)) hb7
    have K8 : KeepsOthers W w7 := KeepsOthers.of_grownBy (row := none) ⟨hb8.os, hb8.tape, hb8.output, hb8.size, fun k hk _ => hb8.block k hk⟩ (fun j o e => by cases e)
    cases bb with
    | false =>
      gi_wp2
      refine ⟨K8.from _, K8.walks, ?_⟩
      show ICol _ _ _ _
      rw [HSN.out, if_neg (by simp), List.append_nil]
      exact ICol.bel ⟨⟨v, HV.out.1, HV.out.2.1⟩, HV.out.2.2⟩ hb8 HV.out.2.2.size
    | true =>
      have hv7 : Boxed w7 w0.heap.size 50 v := blk_below (show W.heap[w0.heap.size]? = _ from HV.out.1) hb8
      have hrow7 := row_below HV.out.2.1 hb8
      have hB7 : RowKit.Below w0.heap.size w0 w7 := HV.out.2.2.trans (hb8.mono HV.out.2.2.size)
      have hc1 := hv7.cell
      have m1 := Bc hb7 l4 e1
      have m2 := Bc hb7 l4 e2
      have m3 := Bc hb7 l4 e3
      have m4 := Bc hb7 l4 e4
      have n0 := cell_lt hc1
      have n1 := cell_lt m1
      have n01 : w0.heap.size ≠ w7.heap.size := by omega
      have HR := Lib.hid (hrow7.alloc (.cells #[.int .i64 z1, .int .i64 z2, .int .i64 z3, .int .i64 z4] 68))
      have HV7 := Lib.hid (blk_below (show w7.heap[w0.heap.size]? = _ from hv7) (Ba (Below.refl _ w7) (.cells #[.int .i64 z1, .int .i64 z2, .int .i64 z3, .int .i64 z4] 68)))
      have S3 := Lib.hid (sl_lit (enc := encP) (w := w7) (cs := #[.int .i64 z1, .int .i64 z2, .int .i64 z3, .int .i64 z4]) (t := 68) (b := w7.heap.size) [((z1, z2), (z3, z4))] (by simp) rfl (by unfold maxLen; simp))
      have HB := Lib.hid (hB7.trans ((Ba (Below.refl _ w7) (.cells #[.int .i64 z1, .int .i64 z2, .int .i64 z3, .int .i64 z4] 68)).mono hB7.size))
      have hle : w0.heap.size ≤ (w7.alloc (.cells #[.int .i64 z1, .int .i64 z2, .int .i64 z3, .int .i64 z4] 68)).heap.size := by simp; omega
      have HW8 := Lib.hid (K8.trans (KeepsOthers.alloc w7 (.cells #[.int .i64 z1, .int .i64 z2, .int .i64 z3, .int .i64 z4] 68)))
      clear hv7 hrow7 hB7 hb7 hb8 K8 a0 c1 g0 e1 e2 e3 e4
      gi_wp2_with (gi_at_builtin; refine wpli_app apP rfl _ _ rfl w0.heap.size (by rfl) (by rfl) HR.out rfl S3.out (by simp; omega) hle ?_; intro v2 w9 hown2 hgrow2 hat2; have hall := ICol.app (x := ((z1, z2), (z3, z4))) (show Boxed _ _ _ _ from HV7.out) HR.out HB.out hle hown2 hgrow2; have hcb := hall.2.2.cell; have hfb := hall.2.2.frozen; have HALL := Lib.hid hall; have hlb := cell_lt hcb; obtain ⟨p2, cc2, hv2, _, _, _⟩ := row_val hown2; obtain ⟨nn, hnn⟩ : ∃ nn, nn = (colF Ky pre ++ [((z1, z2), (z3, z4))]).length := ⟨_, rfl⟩; rw [← hnn] at hv2; rw [hv2] at HALL ⊢; clear hall hown2 hgrow2 hat2 hnn)
      refine ⟨(HW8.out.trans HALL.out.2.1).from _, (HW8.out.trans HALL.out.2.1).walks, ?_⟩
      show ICol _ _ _ _
      rw [HSN.out]
      simp only [if_true]
      exact HALL.out.1
  case done =>
    rintro D ys W hD hks ⟨⟨v, hv, hrow⟩, hB⟩ hK
    have hc1 := hv.cell
    have hl1 := cell_lt hc1
    have hlY : (colF Ky ys).length ≤ 10000 := by have := colF_len Ky ys; have := hks.2; omega
    have OP := Lib.hid (opairs_call (colF Ky ys) v W (row_sl lenP hrow rfl) hlY)
    rw [HSS.out ys hks.1] at OP
    have HK := Lib.hid hK
    have HB := Lib.hid hB
    have hsz := HSZ.out
    have hDl : D < W.heap.size := (Array.getElem?_eq_some_iff.1 hK).1
    have HD2 := Lib.hid (show w.heap.size ≤ D by omega)
    have HWW := Lib.hid (show RowKit.Below w.heap.size w W from B0.out.1.trans (hB.mono (by omega)))
    obtain ⟨pv, cv, rfl, _, _, _⟩ := row_val hrow
    clear hK hrow hB hks hsz
    gi_wp2_with fail
    refine ⟨trivial, callsIn_wide.2 (OP.out.mono ?_)⟩
    rintro e w9 ⟨v9, rfl, ho9, hb9⟩
    have HO9 := Lib.hid ho9
    have HB9 := Lib.hid hb9
    have HK9 := Lib.hid (blk_below HK.out hb9)
    clear ho9 hb9
    gi_wp2
    refine ⟨by simp, .inl ⟨_, _, rfl, run_takeDeferred HK9.out, ?_⟩⟩
    refine ⟨_, results_tmp rfl _ _ _, v9, rfl, ?_, (Bt HWW.out HB9.out).trans (belowK_b (w := w) (Nat.le_refl _) w9 D _ _ HD2.out HK9.out rfl rfl)⟩
    exact own_put (HO9.out.mono HWW.out.size) HK9.out _
  case stop =>
    rintro D c pre W _ _ h _
    exact h.elim
end
end Go.Proofs.YtbodefigeiaodaaDoor
