/-
  Package axis: Drop of a span that is there.
-/
import Derived.Test.YtbodefigeiaodaaDoorDp11
namespace Go.Proofs.YtbodefigeiaodaaDoor
set_option linter.unusedSimpArgs false
set_option linter.unusedVariables false
open Go.RowKit Go.Sort Go.Lib Go.Shelf

theorem ends_ix0 (a b x y : Int) (w : World) : (Instr.index 89 (.agg #[.int .i64 a, .bool false, .int .i64 x, .int .i64 y, .int .i64 b, .bool true, .int .i64 x, .int .i64 y]) (.int .i64 0)).run Tryd.prog w = .ok (.agg #[.int .i64 a, .bool false, .int .i64 x, .int .i64 y]) w := by kernel_rfl
theorem ends_ix1 (a b x y : Int) (w : World) : (Instr.index 89 (.agg #[.int .i64 a, .bool false, .int .i64 x, .int .i64 y, .int .i64 b, .bool true, .int .i64 x, .int .i64 y]) (.int .i64 1)).run Tryd.prog w = .ok (.agg #[.int .i64 b, .bool true, .int .i64 x, .int .i64 y]) w := by kernel_rfl
/-- An element of an array, in a fence. -/
theorem wpli_index {F : Fence} {n : Nat} {ops : Array Oper} {rest : List Oper} {o : Oper} {a : Act} {Q : Exit → Act → World → Prop} {w : World} {t : TypeId} {x i : Operand} {v : Value} (hg : o.guard = none) (hop : o.op = Op.index t x i) (hrun : (Instr.index t (a.eval x) (a.eval i)).run Tryd.prog w = .ok v w)
    (hK : wpListIn F n Tryd.prog ops Q rest (a.put o.dst v) w) : wpListIn F n Tryd.prog ops Q (o :: rest) a w := by
  refine wpListIn_plain hg fun K' hK' => ?_
  unfold Oper.wpIn
  refine ⟨by simp [Oper.about, hop], ?_⟩
  rw [Oper.semAt_plain F _ _ (by rw [hop]; intro c hc'; cases hc')]
  simp [execOp, hop, hrun, Result.andThen]
  exact hK' _ _ hK
/-- The ends that are left when i of a span's two are taken out. -/
def dE (L : List Spn) (s : Spn) (i : Nat) : List En := if i = 0 then endsL L else if i = 1 then (endsL L).filter (fun e => !decide (e = lo s)) else endsL (without L s.1)
theorem dE_step {L : List Spn} (ho : Once L) {s : Spn} (hs : s ∈ L) {i : Nat} (hi2 : i < 2) : ∃ e : En, e = (if i = 0 then lo s else hi s) ∧ e ∈ dE L s i ∧ Rise ltE (dE L s i) ∧ (dE L s i).length ≤ 2 * L.length ∧ dE L s (i + 1) = (dE L s i).filter (fun z => !decide (z = e)) := by
  have h0 := endsL_len L
  rcases Nat.lt_or_ge i 1 with c | c
  · obtain rfl : i = 0 := by omega
    exact ⟨lo s, rfl, mem_endsL.2 ⟨s, hs, .inl rfl⟩, rise_endsL L, h0, rfl⟩
  · obtain rfl : i = 1 := by omega
    refine ⟨hi s, rfl, ?_, rise_filter (rise_endsL L) _, Nat.le_trans (List.length_filter_le _ _) h0, (endsL_without ho hs).symm⟩
    show hi s ∈ (endsL L).filter _
    rw [List.mem_filter]
    refine ⟨mem_endsL.2 ⟨s, hs, .inr rfl⟩, ?_⟩
    have : hi s ≠ lo s := fun e => absurd (congrArg (fun z : En => z.2.1) e) (by simp [Go.Proofs.YtbodefigeiaodaaDoor.hi, lo])
    simpa using this
attribute [local go_sem] Oper.semAt_some
section
variable {pa : Nat} {L : List Spn} {M : Nat → Prop} {w : World}
set_option maxHeartbeats 4000000 in
set_option maxRecDepth 100000 in
theorem drop_some (h : AxAt w M pa L) (x y s1 s2 : Int) (hx : HdOk (x, y)) (hs : ((x, y), (s1, s2)) ∈ L) (hlen : L.length ≤ 200) :
    Calls Tryd.prog 15 #[.pointer (some ⟨pa, 0, none⟩), .agg #[.int .i64 x, .int .i64 y]] w fun e w' => e = .returned .nilIface ∧ AxAt w' (New M w w') pa (without L (x, y)) ∧ Tch M w w' := by
  obtain ⟨mp, sp, v, K, hI0, hK, ho, hok⟩ := h
  obtain ⟨hI, hTM⟩ := hI0.tight
  clear hI0
  have hq := spF_mem ho hs
  have HL : Hid (∀ W, RowKit.Below w.heap.size w W → (Instr.lookup MapST (.map (some sp)) (.agg #[.int .i64 x, .int .i64 y]) true).run Tryd.prog W = .ok (.tuple #[.agg #[.int .i64 s1, .int .i64 s2], .bool true]) W) := fun W hb => by
    have := (hI.2.2.1.below hb).look2 mptS (x, y) hx
    rw [hq] at this
    exact this
  have HI := Lib.hid hI
  have HTM := Lib.hid hTM
  clear hI hTM hq
  refine callsIn_wide (n := 6).1 ?_
  refine callsIn_of_wp_marks Tryd.func15 rfl trivial ?_ rfl
  simp only [Tryd.ntmps15, List.size_toArray, List.length_cons, List.length_nil, Nat.reduceAdd, Nat.reduceSub, Array.replicate_succ, Array.replicate_zero, List.push_toArray, List.append_toArray, List.nil_append, List.cons_append]
  gi_wp2_with fail
  have bb := Ba (Ba (Below.refl _ w) (.cells #[.pointer (some ⟨pa, 0, none⟩)] 24)) (.cells #[.int .i64 x, .int .i64 y] 28)
  obtain ⟨⟨_, c1, _⟩, _⟩ := three_cells (blk_below HI.out.head bb)
  have hl := cell_lt c1
  have hS : ∀ W, RowKit.Below ((w.alloc (.cells #[.pointer (some ⟨pa, 0, none⟩)] 24)).alloc (.cells #[.int .i64 x, .int .i64 y] 28)).heap.size ((w.alloc (.cells #[.pointer (some ⟨pa, 0, none⟩)] 24)).alloc (.cells #[.int .i64 x, .int .i64 y] 28)) W → W.cell? ⟨w.heap.size, 0, none⟩ = some (.pointer (some ⟨pa, 0, none⟩)) ∧ (W.cell? ⟨w.heap.size + 1, 0, none⟩ = some (.int .i64 x) ∧ W.cell? ⟨w.heap.size + 1, 1, none⟩ = some (.int .i64 y)) ∧ W.cell? ⟨pa, 1, none⟩ = some (.map (some sp)) ∧ (Instr.lookup MapST (.map (some sp)) (.agg #[.int .i64 x, .int .i64 y]) true).run Tryd.prog W = .ok (.tuple #[.agg #[.int .i64 s1, .int .i64 s2], .bool true]) W := fun W hW => by
    obtain ⟨k1, k2⟩ := three_blk hW
    obtain ⟨k3, k4, _⟩ := two_cells k2
    exact ⟨(one_cell k1).1, ⟨k3, k4⟩, (three_cells (blk_below HI.out.head (Bt bb hW))).1.2.1, HL.out _ (Bt bb hW)⟩
  clear bb
  refine wpIn_wide.2 (wp_region_noPanic ?_)
  refine wp_region_held_drew (S := fun W => W.cell? ⟨w.heap.size, 0, none⟩ = some (.pointer (some ⟨pa, 0, none⟩)) ∧ (W.cell? ⟨w.heap.size + 1, 0, none⟩ = some (.int .i64 x) ∧ W.cell? ⟨w.heap.size + 1, 1, none⟩ = some (.int .i64 y)) ∧ W.cell? ⟨pa, 1, none⟩ = some (.map (some sp)) ∧ (Instr.lookup MapST (.map (some sp)) (.agg #[.int .i64 x, .int .i64 y]) true).run Tryd.prog W = .ok (.tuple #[.agg #[.int .i64 s1, .int .i64 s2], .bool true]) W) (by kernel_rfl) (hS _ (by repeat (first | with_reducible exact Below.refl _ _ | with_reducible assumption | with_reducible apply Ba | with_reducible apply Bd | with_reducible apply Bn | with_reducible apply Bg | (with_reducible refine Bs ?_ (by first | (simp; done) | (simp; omega)) _) | (with_reducible refine Bt ?_ (by assumption)) | (with_reducible refine Bt ?_ (Gr.below (by assumption)))))) (fun hHeld => ?_)
  (refine wpAnyH_take (i := 0) (v := ?_) rfl (by kernel_rfl) (by kernel_rfl) (by kernel_rfl) (fun _ _ _ h => h) (Or.inl ⟨by rfl, ?rt⟩) (by assumption) ?_; case rt => (intro w hSw; (try dsimp only at hSw); go_simp; (try with_reducible rfl))); (try simp only [Act.put, List.getElem_toArray, List.getElem_cons_succ, List.getElem_cons_zero, List.setIfInBounds_toArray, List.set_cons_zero, List.set_cons_succ])
  (refine wpAnyH_take (i := 1) (v := ?_) rfl (by kernel_rfl) (by kernel_rfl) (by kernel_rfl) (fun _ _ _ h => h) (Or.inl ⟨by rfl, ?rt⟩) (by assumption) ?_; case rt => (intro w hSw; (try dsimp only at hSw); go_simp; (try with_reducible rfl))); (try simp only [Act.put, List.getElem_toArray, List.getElem_cons_succ, List.getElem_cons_zero, List.setIfInBounds_toArray, List.set_cons_zero, List.set_cons_succ])
  (refine wpAnyH_take (i := 2) (v := ?_) rfl (by kernel_rfl) (by kernel_rfl) (by kernel_rfl) (fun _ _ _ h => h) (Or.inl ⟨by rfl, ?rt⟩) (by assumption) ?_; case rt => (intro w hSw; (try dsimp only at hSw); go_simp; (try with_reducible rfl))); (try simp only [Act.put, List.getElem_toArray, List.getElem_cons_succ, List.getElem_cons_zero, List.setIfInBounds_toArray, List.set_cons_zero, List.set_cons_succ])
  (refine wpAnyH_take (i := 3) (v := ?_) rfl (by kernel_rfl) (by kernel_rfl) (by kernel_rfl) (fun _ _ _ h => h) (Or.inl ⟨by rfl, ?rt⟩) (by assumption) ?_; case rt => (intro w hSw; (try dsimp only at hSw); go_simp; (try with_reducible rfl))); (try simp only [Act.put, List.getElem_toArray, List.getElem_cons_succ, List.getElem_cons_zero, List.setIfInBounds_toArray, List.set_cons_zero, List.set_cons_succ])
  (refine wpAnyH_take (i := 4) (v := ?_) rfl (by kernel_rfl) (by kernel_rfl) (by kernel_rfl) (fun _ _ _ h => h) (Or.inl ⟨by rfl, ?rt⟩) (by assumption) ?_; case rt => (intro w hSw; (try dsimp only at hSw); go_simp; (try with_reducible rfl))); (try simp only [Act.put, List.getElem_toArray, List.getElem_cons_succ, List.getElem_cons_zero, List.setIfInBounds_toArray, List.set_cons_zero, List.set_cons_succ])
  (refine wpAnyH_take (i := 5) (v := ?_) rfl (by kernel_rfl) (by kernel_rfl) (by kernel_rfl) (fun _ _ _ h => h) (Or.inl ⟨by rfl, ?rt⟩) (by assumption) ?_; case rt => (intro w hSw; (try dsimp only at hSw); go_simp; (try with_reducible rfl))); (try simp only [Act.put, List.getElem_toArray, List.getElem_cons_succ, List.getElem_cons_zero, List.setIfInBounds_toArray, List.set_cons_zero, List.set_cons_succ])
  (refine wpAnyH_take (i := 6) (v := ?_) rfl (by kernel_rfl) (by kernel_rfl) (by kernel_rfl) (fun _ _ _ h => h) (Or.inl ⟨by rfl, ?rt⟩) (by assumption) ?_; case rt => (intro w hSw; (try dsimp only at hSw); go_simp; (try with_reducible rfl))); (try simp only [Act.put, List.getElem_toArray, List.getElem_cons_succ, List.getElem_cons_zero, List.setIfInBounds_toArray, List.set_cons_zero, List.set_cons_succ])
  (refine wpAnyH_take (i := 7) (v := ?_) rfl (by kernel_rfl) (by kernel_rfl) (by kernel_rfl) (fun _ _ _ h => h) (Or.inl ⟨by rfl, ?rt⟩) (by assumption) ?_; case rt => (intro w hSw; (try dsimp only at hSw); go_simp; (try with_reducible rfl))); (try simp only [Act.put, List.getElem_toArray, List.getElem_cons_succ, List.getElem_cons_zero, List.setIfInBounds_toArray, List.set_cons_zero, List.set_cons_succ])
  (refine wpAnyH_take (i := 8) (v := ?_) rfl (by kernel_rfl) (by kernel_rfl) (by kernel_rfl) (fun _ _ _ h => h) (Or.inl ⟨by rfl, ?rt⟩) (by assumption) ?_; case rt => (intro w hSw; (try dsimp only at hSw); go_simp; (try with_reducible rfl))); (try simp only [Act.put, List.getElem_toArray, List.getElem_cons_succ, List.getElem_cons_zero, List.setIfInBounds_toArray, List.set_cons_zero, List.set_cons_succ])
  refine wpAnyH_ready (rs := [9]) (by kernel_rfl) (by simp) ?_
  refine AllReadyH.cons rfl (fun K hK => ?_) AllReadyH.nil
  go_simp
  refine hK.out _ _ (hS _ (by repeat (first | with_reducible exact Below.refl _ _ | with_reducible assumption | with_reducible apply Ba | with_reducible apply Bd | with_reducible apply Bn | with_reducible apply Bg | (with_reducible refine Bs ?_ (by first | (simp; done) | (simp; omega)) _) | (with_reducible refine Bt ?_ (by assumption)) | (with_reducible refine Bt ?_ (Gr.below (by assumption)))))) (fun hHeld => ?_); clear hK K; (try simp only [Act.put, List.getElem_toArray, List.getElem_cons_succ, List.getElem_cons_zero, List.setIfInBounds_toArray, List.set_cons_zero, List.set_cons_succ])
  refine wpAnyH_ready (rs := [10]) (by kernel_rfl) (by simp) ?_
  refine AllReadyH.cons rfl (fun K hK => ?_) AllReadyH.nil
  go_simp
  refine hK.out _ _ (hS _ (by repeat (first | with_reducible exact Below.refl _ _ | with_reducible assumption | with_reducible apply Ba | with_reducible apply Bd | with_reducible apply Bn | with_reducible apply Bg | (with_reducible refine Bs ?_ (by first | (simp; done) | (simp; omega)) _) | (with_reducible refine Bt ?_ (by assumption)) | (with_reducible refine Bt ?_ (Gr.below (by assumption)))))) (fun hHeld => ?_); clear hK K; (try simp only [Act.put, List.getElem_toArray, List.getElem_cons_succ, List.getElem_cons_zero, List.setIfInBounds_toArray, List.set_cons_zero, List.set_cons_succ])
  (refine wpAnyH_take (i := 11) (v := ?_) rfl (by kernel_rfl) (by kernel_rfl) (by kernel_rfl) (fun _ _ _ h => h) (Or.inl ⟨by rfl, ?rt⟩) (by assumption) ?_; case rt => (intro w hSw; (try dsimp only at hSw); go_simp; (try with_reducible rfl))); (try simp only [Act.put, List.getElem_toArray, List.getElem_cons_succ, List.getElem_cons_zero, List.setIfInBounds_toArray, List.set_cons_zero, List.set_cons_succ])
  refine wpAnyH_done (by kernel_rfl) ?_ _
  refine NoPanic.normal ?_
  clear hHeld hS hl c1
  gi_wp2_with fail
  obtain ⟨n0, hn0⟩ : ∃ n0, n0 = w.heap.size := ⟨_, rfl⟩
  have hW : ∃ W1, W1 = (((w.alloc (.cells #[.pointer (some ⟨pa, 0, none⟩)] 24)).alloc (.cells #[.int .i64 x, .int .i64 y] 28)).alloc (.cells #[.int .i64 s1, .int .i64 s2] 84)).drew := ⟨_, rfl⟩
  obtain ⟨W1, hW1⟩ := hW
  have B1 : RowKit.Below w.heap.size w W1 := by rw [hW1]; exact Bd (Ba (Ba (Ba (Below.refl _ w) _) _) _)
  obtain ⟨k1, k2⟩ := three_blk (w := w) (o1 := .cells #[.pointer (some ⟨pa, 0, none⟩)] 24) (o2 := .cells #[.int .i64 x, .int .i64 y] 28) (w3 := W1) (by rw [hW1]; exact Bd (Ba (Below.refl _ _) _))
  have k3 : W1.heap[w.heap.size + 2]? = some (.cells #[.int .i64 s1, .int .i64 s2] 84 (0, 0)) := by
    rw [hW1]
    have := heap_alloc_new ((w.alloc (.cells #[.pointer (some ⟨pa, 0, none⟩)] 24)).alloc (.cells #[.int .i64 x, .int .i64 y] 28)) (.cells #[.int .i64 s1, .int .i64 s2] 84)
    rwa [show ((w.alloc (.cells #[.pointer (some ⟨pa, 0, none⟩)] 24)).alloc (.cells #[.int .i64 x, .int .i64 y] 28)).heap.size = w.heap.size + 2 by simp] at this
  have hsz1 : W1.heap.size = w.heap.size + 3 := by rw [hW1]; simp [World.drew]
  rw [← hW1]
  have HW1 := Lib.hid hW1
  clear hW1
  rw [← hn0] at k1 k2 k3 hsz1 ⊢
  have I1 := Lib.hid (HI.out.below B1)
  have KB := Lib.hid (And.intro k1 (And.intro k2 k3))
  obtain ⟨c0, _⟩ := one_cell k1
  obtain ⟨d0, d1, _⟩ := two_cells k2
  obtain ⟨⟨_, c1, _⟩, _⟩ := three_cells I1.out.head
  obtain ⟨w2, hrun, hm2, hg2⟩ := (I1.out.2.2.1.below (Bd (Below.refl _ W1))).del mptS (x, y) hx 0
  rw [spF_mem ho hs] at hm2
  have hL1 : (if (some (s1, s2) : Option IV).isSome then L.length - 1 else L.length) = (without L (x, y)).length := by
    have := without_one ho hs
    simp at this ⊢
    omega
  have HM2 := Lib.hid ((hm2.cnt hL1).congr (g := spF (without L (x, y))) (fun z => (spF_without L (x, y) z).symm))
  have HG2 := Lib.hid hg2
  unfold mH at hrun
  have hl0 : ∀ b, own4 pa mp sp v b → b < n0 := fun b e => by rw [hn0]; exact (HTM.out b e).2
  have hspl : sp < n0 := hl0 sp (.inr (.inr (.inl rfl)))
  have hpal : pa < n0 := hl0 pa (.inl rfl)
  have hmpl : mp < n0 := hl0 mp (.inr (.inl rfl))
  have hps := I1.out.ps
  have hblk : ∀ {b : Nat} {o : Obj}, W1.heap[b]? = some o → b ≠ sp → w2.heap[b]? = some o := fun {b o} hb hne => (hg2.block b (Array.getElem?_eq_some_iff.1 hb).1 (fun e => hne (by cases e; rfl))).trans hb
  have k1' := hblk k1 (by omega)
  have k2' := hblk k2 (by omega)
  have k3' := hblk k3 (by omega)
  have hsz2 : n0 + 3 ≤ w2.heap.size := by have : W1.heap.size ≤ w2.heap.size := hg2.size; omega
  obtain ⟨c0', _⟩ := one_cell k1'
  obtain ⟨d0', d1', _⟩ := two_cells k2'
  have I2 : AxIs w2 (own4 pa mp sp v) pa mp sp v (without L (x, y)) K (endsL L) := I1.out.spans HM2.out (fun b _ hb hne => hg2.block b hb (fun e => hne (by cases e; rfl)))
  obtain ⟨⟨_, c1', _⟩, _⟩ := three_cells I2.head
  have T2 : Tch (own4 pa mp sp v) W1 w2 := ⟨hg2.os, hg2.tape, hg2.output, hg2.size, fun k hk hn => hg2.block k hk (fun e => hn (.inr (.inr (.inl (by cases e; rfl)))))⟩
  have HN0 := Lib.hid hn0
  have T2' := Lib.hid ((Tch.of B1 : Tch (own4 pa mp sp v) w W1).more T2)
  have I2' := Lib.hid I2
  have KB2 := Lib.hid (And.intro k1' (And.intro k2' k3'))
  clear hn0 B1 hm2 hg2 hblk I2 T2 KB k1 k2 k3 k1' k2' k3'
  have hn0s : n0 < W1.heap.size := by omega
  have hn1s : n0 + 1 < W1.heap.size := by omega
  have hpas : pa < W1.heap.size := by omega
  refine wpIn_wide.2 (wp_region_noPanic ?_)
  refine wp_region_held_drew (S := fun W => W.cell? ⟨n0, 0, none⟩ = some (.pointer (some ⟨pa, 0, none⟩)) ∧ (W.cell? ⟨n0 + 1, 0, none⟩ = some (.int .i64 x) ∧ W.cell? ⟨n0 + 1, 1, none⟩ = some (.int .i64 y)) ∧ W.cell? ⟨pa, 1, none⟩ = some (.map (some sp))) (by kernel_rfl) ⟨c0, ⟨d0, d1⟩, c1⟩ (fun hHeld => ?_)
  (refine wpAnyH_take (i := 0) (v := ?_) rfl (by kernel_rfl) (by kernel_rfl) (by kernel_rfl) (fun _ _ _ h => h) (Or.inl ⟨by rfl, ?rt⟩) (by assumption) ?_; case rt => (intro w hSw; (try dsimp only at hSw); go_simp; (try with_reducible rfl))); (try simp only [Act.put, List.getElem_toArray, List.getElem_cons_succ, List.getElem_cons_zero, List.setIfInBounds_toArray, List.set_cons_zero, List.set_cons_succ])
  (refine wpAnyH_take (i := 1) (v := ?_) rfl (by kernel_rfl) (by kernel_rfl) (by kernel_rfl) (fun _ _ _ h => h) (Or.inl ⟨by rfl, ?rt⟩) (by assumption) ?_; case rt => (intro w hSw; (try dsimp only at hSw); go_simp; (try with_reducible rfl))); (try simp only [Act.put, List.getElem_toArray, List.getElem_cons_succ, List.getElem_cons_zero, List.setIfInBounds_toArray, List.set_cons_zero, List.set_cons_succ])
  (refine wpAnyH_take (i := 2) (v := ?_) rfl (by kernel_rfl) (by kernel_rfl) (by kernel_rfl) (fun _ _ _ h => h) (Or.inl ⟨by rfl, ?rt⟩) (by assumption) ?_; case rt => (intro w hSw; (try dsimp only at hSw); go_simp; (try with_reducible rfl))); (try simp only [Act.put, List.getElem_toArray, List.getElem_cons_succ, List.getElem_cons_zero, List.setIfInBounds_toArray, List.set_cons_zero, List.set_cons_succ])
  (refine wpAnyH_take (i := 3) (v := ?_) rfl (by kernel_rfl) (by kernel_rfl) (by kernel_rfl) (fun _ _ _ h => h) (Or.inl ⟨by rfl, ?rt⟩) (by assumption) ?_; case rt => (intro w hSw; (try dsimp only at hSw); go_simp; (try with_reducible rfl))); (try simp only [Act.put, List.getElem_toArray, List.getElem_cons_succ, List.getElem_cons_zero, List.setIfInBounds_toArray, List.set_cons_zero, List.set_cons_succ])
  (refine wpAnyH_take (i := 4) (v := ?_) rfl (by kernel_rfl) (by kernel_rfl) (by kernel_rfl) (fun _ _ _ h => h) (Or.inl ⟨by rfl, ?rt⟩) (by assumption) ?_; case rt => (intro w hSw; (try dsimp only at hSw); go_simp; (try with_reducible rfl))); (try simp only [Act.put, List.getElem_toArray, List.getElem_cons_succ, List.getElem_cons_zero, List.setIfInBounds_toArray, List.set_cons_zero, List.set_cons_succ])
  refine wpAnyH_ready (rs := [5]) (by kernel_rfl) (by simp) ?_
  refine AllReadyH.cons rfl (fun K hK => ?_) AllReadyH.nil
  go_simp
  refine hK.out _ _ ⟨c0', ⟨d0', d1'⟩, c1'⟩ (fun hHeld => ?_); clear hK K; (try simp only [Act.put, List.getElem_toArray, List.getElem_cons_succ, List.getElem_cons_zero, List.setIfInBounds_toArray, List.set_cons_zero, List.set_cons_succ])
  refine wpAnyH_done (by kernel_rfl) ?_ _
  refine NoPanic.normal ?_
  clear hHeld hrun c0 d0 d1 c1 hn0s hn1s hpas
  have hn0s : n0 < w2.heap.size := by omega
  have EN := Lib.hid (fun W => ends_of s1 s2 x y W)
  unfold endsV at EN
  obtain ⟨e0', e1', _⟩ := two_cells KB2.out.2.2
  gi_wp2_with fail
  refine ⟨trivial, callsIn_wide.2 ((EN.out _).mono ?_)⟩
  rintro e w3 ⟨rfl, hb3⟩
  have I3 := Lib.hid (I2'.out.below hb3)
  have KB3 := Lib.hid (And.intro (blk_below KB2.out.1 hb3) (And.intro (blk_below KB2.out.2.1 hb3) (blk_below KB2.out.2.2 hb3)))
  have T3 := Lib.hid (T2'.out.bel hb3)
  have hsz3 : n0 + 3 ≤ w3.heap.size := Nat.le_trans hsz2 hb3.size
  clear hb3 I2' KB2 T2' e0' e1' c0' d0' d1' c1' EN
  gi_wp2
  gi_loopw [31] (fun u wr => ∃ (i : Nat) (v' : Value), u = .int .i64 i ∧ i ≤ 2 ∧ AxIs wr (fun b => own4 pa mp sp v b ∨ n0 + 3 ≤ b) pa mp sp v' (without L (x, y)) K (dE L ((x, y), (s1, s2)) i) ∧
      (wr.heap[n0]? = some (.cells #[.pointer (some ⟨pa, 0, none⟩)] 24 (0, 0)) ∧ wr.heap[n0 + 1]? = some (.cells #[.int .i64 x, .int .i64 y] 28 (0, 0)) ∧ wr.heap[n0 + 2]? = some (.cells #[.int .i64 s1, .int .i64 s2] 84 (0, 0))) ∧
      Tch (fun b => own4 pa mp sp v b ∨ n0 + 3 ≤ b) w wr ∧ n0 + 3 ≤ wr.heap.size) (fun u _ => 2 - (intOf u).toNat)
  case atStart => exact ⟨0, v, rfl, by omega, I3.out.mono (fun b e => .inl e), KB3.out, T3.out.mono (fun b e => .inl e), hsz3⟩
  case round =>
    obtain ⟨i, v', rfl, hi2, hI', ⟨k1, k2, k3⟩, hT', hsz'⟩ := hrel
    clear I3 KB3 T3
    have HI' := Lib.hid hI'
    have HT' := Lib.hid hT'
    by_cases hlt : i < 2
    · obtain ⟨e, he, hmem, hrise, hle, hnext⟩ := dE_step ho hs hlt
      have he2 : (i = 0 ∧ e = (s1, false, x, y)) ∨ (i = 1 ∧ e = (s2, true, x, y)) := by
        rcases Nat.lt_or_ge i 1 with c | c
        · obtain rfl : i = 0 := by omega
          exact .inl ⟨rfl, he⟩
        · obtain rfl : i = 1 := by omega
          exact .inr ⟨rfl, he⟩
      have HN := Lib.hid hnext
      have HRM := Lib.hid (And.intro hmem hrise)
      have hk0 := headLess_mem sto_en e hrise hmem
      have hkl : headLess ltE e (dE L ((x, y), (s1, s2)) i) < (dE L ((x, y), (s1, s2)) i).length := (List.getElem?_eq_some_iff.1 hk0).1
      have HCUT := Lib.hid (cut_one sto_en e hrise hmem)
      generalize dE L ((x, y), (s1, s2)) i = E at *
      have PL := Lib.hid (fun W (hW : RowKit.Below wr.heap.size wr W) => place_call (HI'.out.below hW) hrise (by omega) e)
      generalize headLess ltE e E = k at *
      have hwk : IntKind.i64.wrap ((k : Int) + 1) = (k : Int) + 1 := by rw [IntKind.wrap_i64]; omega
      have hn0s : n0 < wr.heap.size := by omega
      have n0ne : n0 ≠ wr.heap.size := by omega
      have K3 := Lib.hid (And.intro k1 (And.intro k2 k3))
      obtain ⟨c0, _⟩ := one_cell k1
      clear he hmem hrise hnext hk0 hI' hT' k1 k2 k3
      rcases he2 with ⟨rfl, rfl⟩ | ⟨rfl, rfl⟩
      all_goals
        unfold aggE at PL
        dsimp only at PL
        gi_wp2_with fail
        rename_i KK hKK
        refine hKK _ _ ?_
        clear hKK KK
        first
          | (rw [show ∀ h, (Value.agg ((#[.int .i64 s1, .bool false, .int .i64 x, .int .i64 y, .int .i64 s2, .bool true, .int .i64 x, .int .i64 y] : Array Value).extract (Int.toNat 0 * (Tryd.prog.types[55]'h).size) (Int.toNat 0 * (Tryd.prog.types[55]'h).size + (Tryd.prog.types[55]'h).size))) = .agg #[.int .i64 s1, .bool false, .int .i64 x, .int .i64 y] from fun h => by kernel_rfl])
          | (rw [show ∀ h, (Value.agg ((#[.int .i64 s1, .bool false, .int .i64 x, .int .i64 y, .int .i64 s2, .bool true, .int .i64 x, .int .i64 y] : Array Value).extract (Int.toNat 1 * (Tryd.prog.types[55]'h).size) (Int.toNat 1 * (Tryd.prog.types[55]'h).size + (Tryd.prog.types[55]'h).size))) = .agg #[.int .i64 s2, .bool true, .int .i64 x, .int .i64 y] from fun h => by kernel_rfl])
        (try simp only [Act.put, List.getElem_toArray, List.getElem_cons_succ, List.getElem_cons_zero, List.setIfInBounds_toArray, List.set_cons_zero, List.set_cons_succ])
        gi_wp2_with fail
        refine ⟨trivial, callsIn_wide.2 ((PL.out _ (Ba (Below.refl _ wr) _)).mono ?_)⟩
        rintro e w4 ⟨rfl, hg4⟩
        have hb4 : RowKit.Below wr.heap.size wr w4 := Bt (Ba (Below.refl _ wr) _) hg4.below
        have I4 := HI'.out.below hb4
        obtain ⟨⟨_, _, z2⟩, zf⟩ := I4.cells
        have z0 := Bc hb4 hn0s c0
        have hn4 : n0 < w4.heap.size := Bl hb4 hn0s
        have hp4 := I4.lt
        have DEL := Lib.hid (deleteE_call E k hkl v' w4.drew ⟨row_keep I4.2.2.2.1 (fun _ _ => rfl), fun g hg => (hg : v'.ownBlock = some g)⟩)
        have HI4 := Lib.hid (I4.below (Bd (Below.refl _ w4)))
        have T4 := Lib.hid (HT'.out.bel hb4)
        have K4 := Lib.hid (And.intro (blk_below K3.out.1 hb4) (And.intro (blk_below K3.out.2.1 hb4) (blk_below K3.out.2.2 hb4)))
        have hs4 := hb4.size
        have npa : n0 ≠ pa := by omega
        clear hg4 hb4 I4 PL HI' HT' K3
        gi_wp2_with fail
        refine wpIn_wide.2 (wp_region_noPanic ?_)
        refine wp_region_held_drew (S := fun W => W.cell? ⟨n0, 0, none⟩ = some (.pointer (some ⟨pa, 0, none⟩))) (by kernel_rfl) z0 (fun hHeld => ?_)
        (refine wpAnyH_take (i := 0) (v := ?_) rfl (by kernel_rfl) (by kernel_rfl) (by kernel_rfl) (fun _ _ _ h => h) (Or.inl ⟨by rfl, ?rt⟩) (by assumption) ?_; case rt => (intro w hSw; (try dsimp only at hSw); go_simp; (try with_reducible rfl))); (try simp only [Act.put, List.getElem_toArray, List.getElem_cons_succ, List.getElem_cons_zero, List.setIfInBounds_toArray, List.set_cons_zero, List.set_cons_succ])
        (refine wpAnyH_take (i := 1) (v := ?_) rfl (by kernel_rfl) (by kernel_rfl) (by kernel_rfl) (fun _ _ _ h => h) (Or.inl ⟨by rfl, ?rt⟩) (by assumption) ?_; case rt => (intro w hSw; (try dsimp only at hSw); go_simp; (try with_reducible rfl))); (try simp only [Act.put, List.getElem_toArray, List.getElem_cons_succ, List.getElem_cons_zero, List.setIfInBounds_toArray, List.set_cons_zero, List.set_cons_succ])
        (refine wpAnyH_take (i := 2) (v := ?_) rfl (by kernel_rfl) (by kernel_rfl) (by kernel_rfl) (fun _ _ _ h => h) (Or.inl ⟨by rfl, ?rt⟩) (by assumption) ?_; case rt => (intro w hSw; (try dsimp only at hSw); go_simp; (try with_reducible rfl))); (try simp only [Act.put, List.getElem_toArray, List.getElem_cons_succ, List.getElem_cons_zero, List.setIfInBounds_toArray, List.set_cons_zero, List.set_cons_succ])
        (refine wpAnyH_take (i := 3) (v := ?_) rfl (by kernel_rfl) (by kernel_rfl) (by kernel_rfl) (fun _ _ _ h => h) (Or.inl ⟨by rfl, ?rt⟩) (by assumption) ?_; case rt => (intro w hSw; (try dsimp only at hSw); go_simp; (try with_reducible rfl))); (try simp only [Act.put, List.getElem_toArray, List.getElem_cons_succ, List.getElem_cons_zero, List.setIfInBounds_toArray, List.set_cons_zero, List.set_cons_succ])
        (refine wpAnyH_take (i := 5) (v := ?_) rfl (by kernel_rfl) (by kernel_rfl) (by kernel_rfl) (fun _ _ _ h => h) (Or.inl ⟨by rfl, ?rt⟩) (by assumption) ?_; case rt => (intro w hSw; (try dsimp only at hSw); go_simp; (try with_reducible rfl))); (try simp only [Act.put, List.getElem_toArray, List.getElem_cons_succ, List.getElem_cons_zero, List.setIfInBounds_toArray, List.set_cons_zero, List.set_cons_succ])
        (refine wpAnyH_take (i := 6) (v := ?_) rfl (by kernel_rfl) (by kernel_rfl) (by kernel_rfl) (fun _ _ _ h => h) (Or.inl ⟨by rfl, ?rt⟩) (by assumption) ?_; case rt => (intro w hSw; (try dsimp only at hSw); go_simp; (try with_reducible rfl))); (try simp only [Act.put, List.getElem_toArray, List.getElem_cons_succ, List.getElem_cons_zero, List.setIfInBounds_toArray, List.set_cons_zero, List.set_cons_succ])
        (refine wpAnyH_take (i := 7) (v := ?_) rfl (by kernel_rfl) (by kernel_rfl) (by kernel_rfl) (fun _ _ _ h => h) (Or.inl ⟨by rfl, ?rt⟩) (by assumption) ?_; case rt => (intro w hSw; (try dsimp only at hSw); go_simp; (try with_reducible rfl))); (try simp only [Act.put, List.getElem_toArray, List.getElem_cons_succ, List.getElem_cons_zero, List.setIfInBounds_toArray, List.set_cons_zero, List.set_cons_succ])
        (try rw [hwk])
        refine wpAnyH_ready (rs := [4]) (by kernel_rfl) (by simp) ?_
        refine AllReadyH.cons rfl (fun K hK => ?_) AllReadyH.nil
        go_simp
        refine hK.out _ _ z0 (fun hHeld => ?_); clear hK K; (try simp only [Act.put, List.getElem_toArray, List.getElem_cons_succ, List.getElem_cons_zero, List.setIfInBounds_toArray, List.set_cons_zero, List.set_cons_succ])
        refine wpAnyH_ready (rs := [8]) (by kernel_rfl) (by simp) ?_
        refine AllReadyH.cons rfl (fun K hK => ?_) AllReadyH.nil
        go_simp
        refine DEL.out.mono ?_
        rintro e w5 ⟨v5, rfl, hr5, ht5⟩
        have hRw : ∀ b, v'.ownBlock = some b → own4 pa mp sp v b ∨ n0 + 3 ≤ b := fun b e => HI4.out.2.2.2.2 b e
        have hown : v'.ownBlock ≠ some pa := fun e => by
          obtain ⟨cs, hc⟩ := row_type HI4.out.2.2.2.1 e
          exact type_apart HI4.out.head hc tAE rfl
        have hown0 : v'.ownBlock ≠ some n0 := fun e => by
          obtain ⟨cs, hc⟩ := row_type HI4.out.2.2.2.1 e
          have hk0 : w4.drew.heap[n0]? = _ := K4.out.1
          exact type_apart hk0 hc (by decide) rfl
        have hd5 := ht5.blk HI4.out.head hown
        obtain ⟨⟨_, _, q2⟩, qf⟩ := three_cells hd5
        have q0 : w5.cell? ⟨n0, 0, none⟩ = some (.pointer (some ⟨pa, 0, none⟩)) := ht5.cell hn4 hown0 z0
        have hp5 := cell_lt q2
        have HP5 := Lib.hid (HI4.out.putE (hr5.mono (M' := fun b => own4 pa mp sp v b ∨ n0 + 3 ≤ b) hRw) ht5)
        have q0s : (w5.setCell ⟨pa, 2, none⟩ v5).cell? ⟨n0, 0, none⟩ = some (.pointer (some ⟨pa, 0, none⟩)) := (World.cell?_setCell_other _ _ _ _ (by simp [npa])).trans q0
        obtain ⟨p5, cp5, hv5, _, _, _⟩ := row_val hr5.1
        obtain ⟨nn, hnn⟩ : ∃ nn, nn = (E.take k ++ E.drop (k + 1)).length := ⟨_, rfl⟩
        rw [← hnn] at hv5
        rw [hv5] at HP5 q0s ⊢
        clear hr5 ht5 hd5 hnn
        refine hK.out _ _ q0 (fun hHeld => ?_); clear hK K; (try simp only [Act.put, List.getElem_toArray, List.getElem_cons_succ, List.getElem_cons_zero, List.setIfInBounds_toArray, List.set_cons_zero, List.set_cons_succ])
        (refine wpAnyH_take (i := 9) (v := ?_) rfl (by kernel_rfl) (by kernel_rfl) (by kernel_rfl) (fun _ _ _ h => h) (Or.inl ⟨by rfl, ?rt⟩) (by assumption) ?_; case rt => (intro w hSw; (try dsimp only at hSw); go_simp; (try with_reducible rfl))); (try simp only [Act.put, List.getElem_toArray, List.getElem_cons_succ, List.getElem_cons_zero, List.setIfInBounds_toArray, List.set_cons_zero, List.set_cons_succ])
        (refine wpAnyH_take (i := 10) (v := ?_) rfl (by kernel_rfl) (by kernel_rfl) (by kernel_rfl) (fun _ _ _ h => h) (Or.inl ⟨by rfl, ?rt⟩) (by assumption) ?_; case rt => (intro w hSw; (try dsimp only at hSw); go_simp; (try with_reducible rfl))); (try simp only [Act.put, List.getElem_toArray, List.getElem_cons_succ, List.getElem_cons_zero, List.setIfInBounds_toArray, List.set_cons_zero, List.set_cons_succ])
        refine wpAnyH_ready (rs := [11]) (by kernel_rfl) (by simp) ?_
        refine AllReadyH.cons rfl (fun K hK => ?_) AllReadyH.nil
        go_simp
        refine hK.out _ _ q0s (fun hHeld => ?_); clear hK K; (try simp only [Act.put, List.getElem_toArray, List.getElem_cons_succ, List.getElem_cons_zero, List.setIfInBounds_toArray, List.set_cons_zero, List.set_cons_succ])
        refine wpAnyH_done (by kernel_rfl) ?_ _
        refine NoPanic.normal ?_
        clear hHeld q0s q0 q2 qf hv5
        rw [HCUT.out, ← HN.out] at HP5
        have T5 := Lib.hid (T4.out.more ((Tch.of (Bd (Below.refl _ w4))).more HP5.out.2))
        have K5 := Lib.hid (And.intro (HP5.out.2.blk (show w4.drew.heap[n0]? = _ from K4.out.1) (fun e => e.elim (fun e => absurd (hl0 _ e) (by omega)) (fun e => by omega))) (And.intro (HP5.out.2.blk (show w4.drew.heap[n0 + 1]? = _ from K4.out.2.1) (fun e => e.elim (fun e => absurd (hl0 _ e) (by omega)) (fun e => by omega))) (HP5.out.2.blk (show w4.drew.heap[n0 + 2]? = _ from K4.out.2.2) (fun e => e.elim (fun e => absurd (hl0 _ e) (by omega)) (fun e => by omega)))))
        have S5 := Lib.hid (HP5.out.2.size)
        gi_wp2
        go_roundw
        case measure => decide
        case rel => first | exact ⟨1, _, rfl, by omega, HP5.out.1, K5.out, T5.out, by have h1 : w4.heap.size ≤ _ := S5.out; omega⟩ | exact ⟨2, _, rfl, by omega, HP5.out.1, K5.out, T5.out, by have h1 : w4.heap.size ≤ _ := S5.out; omega⟩
    · obtain rfl : i = 2 := by omega
      clear hlt hi2
      have HKB := Lib.hid (And.intro k1 (And.intro k2 k3))
      have HMC := Lib.hid (fun W => meeting_call pa s1 s2 W)
      obtain ⟨c0, _⟩ := one_cell k1
      obtain ⟨e0, e1, _⟩ := two_cells k3
      have hn0s : n0 < wr.heap.size := by omega
      have hn2s : n0 + 2 < wr.heap.size := by omega
      have hp6 := hI'.lt
      have HI6 := Lib.hid hI'
      have HT6 := Lib.hid hT'
      clear hI' hT' k1 k2 k3
      gi_wp2_with fail
      refine ⟨trivial, callsIn_wide.2 ((HMC.out _).mono ?_)⟩
      rintro e w6 ⟨rfl, hw6⟩
      gi_wp2_with fail
      have hb6 : RowKit.Below wr.heap.size wr w6 := by rw [hw6]; exact Ba (Ba (Below.refl _ wr) _) _
      obtain ⟨b1, b2⟩ := three_blk (w := wr) (o1 := .cells #[.pointer (some ⟨pa, 0, none⟩)] 24) (o2 := .cells #[.int .i64 s1, .int .i64 s2] 84) (w3 := w6) (by rw [hw6]; exact Below.refl _ _)
      have hs6 : w6.heap.size = wr.heap.size + 2 := by rw [hw6]; simp
      rw [← hw6]
      clear hw6
      have I6 := Lib.hid (HI6.out.below hb6)
      have KB6 := Lib.hid (And.intro (blk_below HKB.out.1 hb6) (blk_below HKB.out.2.1 hb6))
      have hdE : dE L ((x, y), (s1, s2)) 2 = endsL (without L (x, y)) := rfl
      have hRlt : ∀ b, own4 pa mp sp v b ∨ n0 + 3 ≤ b → b ≠ mp → b < wr.heap.size → b ≠ mp ∧ b < w6.heap.size := fun b _ h1 h2 => ⟨h1, by omega⟩
      have hItF : ItF w6 w6.heap.size mp pa sp wr.heap.size (wr.heap.size + 1) v' (without L (x, y)) (s1, s2) := by
        have hI := I6.out
        rw [hdE] at hI
        obtain ⟨es, cc, hme⟩ := hI.2.1.is
        have hrm := row_not_map hI.2.2.2 hme
        exact ⟨b1, b2, hI.head, hI.2.2.1, ⟨hI.2.2.2.1, fun g hg => ⟨fun e => hrm (by rw [← e]; exact hg), row_lt hI.2.2.2.1 hg⟩⟩, ⟨by omega, by omega⟩, ⟨by omega, by omega⟩, ⟨hI.lt, hI.pm⟩, ⟨hI.slt, hI.1.2.2.2.2.symm⟩⟩
      have hmp6 : mp < w6.heap.size := by omega
      have hok1 : ∀ b ∈ without L (x, y), HdOk b.1 := fun b hb => hok b (mem_without.1 hb).1
      have hl1 : (without L (x, y)).length ≤ 1000 := by have := without_len L (x, y); omega
      have STOP := Lib.hid (fun (l : Nat) (J Jx : List (Met (without L (x, y)) (s1, s2)) → World → Prop) (W : World) (hW : RowKit.Below w6.heap.size w6 W) (hJ : AbidesFrom W.heap.size J) hY (h0 : J [] W) => meet_in 5 (by omega) l wr.heap.size (wr.heap.size + 1) w6.heap.size mp pa sp v' (without L (x, y)) (s1, s2) (ho.without (x, y)) hok1 hl1 J Jx hY W hJ (hItF.off hW) hW.size h0)
      have HME := Lib.hid I6.out.2.1
      have BX := Lib.hid (And.intro b1 b2)
      clear hItF hdE b1 b2 hRlt
      refine wpIn_rangeFunc_ownH (α := Met (without L (x, y)) (s1, s2)) rfl (by omega) (gf := MeetF) (lb := #[.pointer (some ⟨wr.heap.size, 0, none⟩), .pointer (some ⟨wr.heap.size + 1, 0, none⟩)]) rfl trivial (enters_of Tryd.func53 (by kernel_rfl) rfl)
        (encs := fun x => #[.agg #[.int .i64 x.1.1, .int .i64 x.1.2]]) (Kp := KpM mp w6.heap.size) (S := AllIn) (Sp := fun _ => True) (N := 2 * (without L (x, y)).length) (w0 := w6) (fun l J Jx W hW hJ _ hY h0 => STOP.out l J Jx W hW hJ hY h0) kp_trans (fun W l o o' hl _ _ _ => kp_put W l o' hl) (Below.refl _ _) (fun _ => rfl)
        (IPr mp w6.heap.size w6 (partsK K (x, y)))
        (fun _ _ _ => False)
        (ipr_own hmp6)
        (fun _ _ _ _ _ hs _ _ => hs)
        ⟨Tch.refl _ _, HME.out⟩
        (fun z a' W => AxR w6.heap.size (fun Bx q => { tmps := #[.pointer (some ⟨pa, 0, none⟩), .agg #[.int .i64 x, .int .i64 y], .pointer (some ⟨n0, 0, none⟩), .pointer (some ⟨n0 + 1, 0, none⟩), .nilIface, .pointer (some ⟨n0 + 1 + 1, 0, none⟩), .bool true, undef, u8, u9, .pointer (some ⟨Bx, 0, none⟩), .tuple #[.agg #[.int .i64 s1, .int .i64 s2], .bool true], .pointer (some ⟨pa, 0, none⟩), .pointer (some ⟨pa, 0, none⟩), .pointer (some ⟨pa, 1, none⟩), .map (some sp), .agg #[.int .i64 x, .int .i64 y], .tuple #[.agg #[.int .i64 s1, .int .i64 s2], .bool true], .agg #[.int .i64 s1, .int .i64 s2], .bool true, .bool true, .bool false, undef, .pointer (some ⟨pa, 0, none⟩), .pointer (some ⟨pa, 0, none⟩), .pointer (some ⟨pa, 1, none⟩), .map (some sp), .agg #[.int .i64 x, .int .i64 y], .agg #[.int .i64 s1, .int .i64 s2], .agg #[.int .i64 x, .int .i64 y], .agg #[.int .i64 s1, .bool false, .int .i64 x, .int .i64 y, .int .i64 s2, .bool true, .int .i64 x, .int .i64 y], .int .i64 2, .bool false, u33, u34, u35, u36, u37, u38, u39, u40, u41, u42, u43, u44, u45, u46, u47, u48, .pointer (some ⟨pa, 0, none⟩), .agg #[.int .i64 s1, .int .i64 s2], .func (.func MeetF) #[] #[.pointer (some ⟨wr.heap.size, 0, none⟩), .pointer (some ⟨wr.heap.size + 1, 0, none⟩)], .agg #[.int .i64 q.1, .int .i64 q.2], undef, undef, undef, undef, undef, undef, undef], defers := [] }) z.1 a' W)
        (fun z a' => axr_own) ?assign ?body ?done ?stop
      case assign =>
        intro l pre z W K1 hI hK1
        gi_wp2
        refine hK1 _ _ ((KeepsOthers.alloc W _).from _) (Tch.of (Ba (Below.refl _ W) _)) (hI.bel (Ba (Below.refl _ W) _)) ⟨W.heap.size, hI.1.size, heap_alloc_new W _, rfl⟩
      case body =>
        rintro l pre z a' W hl ⟨r, hr⟩ ⟨hKp, hMq⟩ ⟨Bx, hBx, hbx, rfl⟩ hlt
        obtain ⟨bz, hbz, e1z, e2z⟩ := z.2
        have hzn := (mem_without.1 hbz).2
        have hzok := hok1 bz hbz
        rw [e1z] at hzn hzok
        have hpn := partsK_snoc K (x, y) (pre.map (fun x => x.1)) z.1
        have hnd := nodup_partsK (x, y) (pre.map (fun x => x.1)) K hK.1
        have hmap : ((pre ++ [z]).map (fun x => x.1)) = pre.map (fun x => x.1) ++ [z.1] := by simp
        obtain ⟨⟨z1, z2⟩, hz⟩ := z
        dsimp only at hzn hzok hpn hmap hbx
        have PT := Lib.hid (fun (W' : World) (hm : MapQ W' mp (partsK K (x, y) (pre.map (fun x => x.1))).length (prF (partsK K (x, y) (pre.map (fun x => x.1))))) => part_call x y z1 z2 (fun e => hzn e.symm) hx hzok hm hnd)
        have HPN := Lib.hid hpn
        have HMP := Lib.hid hmap
        have hn06 : n0 < w6.heap.size := by omega
        have a0 := (one_cell (hKp.blk KB6.out.1 (fun e => e.elim (fun e => by omega) (fun e => by omega)))).1
        obtain ⟨a1, a2, _⟩ := two_cells (hKp.blk KB6.out.2 (fun e => e.elim (fun e => by omega) (fun e => by omega)))
        obtain ⟨⟨a3, _, _⟩, _⟩ := three_cells (hKp.blk I6.out.head (fun e => e.elim (fun e => I6.out.pm e) (fun e => by have := I6.out.lt; omega)))
        obtain ⟨a4, a5, _⟩ := two_cells hbx
        have l0 := cell_lt a0
        have l1 := cell_lt a1
        have l3 := cell_lt a3
        have l4 := cell_lt a4
        have HKp := Lib.hid hKp
        have HMq := Lib.hid hMq
        have hbm : Bx ≠ mp := by omega
        have hpm6 := I6.out.pm
        unfold mpV at PT
        clear hpn hmap hKp hMq hbx hnd hzn hzok
        gi_wp2_with fail
        refine wpIn_region_round (S := fun W2 => W2.cell? ⟨n0, 0, none⟩ = some (.pointer (some ⟨pa, 0, none⟩)) ∧ (W2.cell? ⟨n0 + 1, 0, none⟩ = some (.int .i64 x) ∧ W2.cell? ⟨n0 + 1, 1, none⟩ = some (.int .i64 y)) ∧ W2.cell? ⟨pa, 0, none⟩ = some (.map (some mp)) ∧ W2.cell? ⟨Bx, 0, none⟩ = some (.int .i64 z1) ∧ W2.cell? ⟨Bx, 1, none⟩ = some (.int .i64 z2)) (by kernel_rfl) (by rintro ⟨_, _, q⟩; exact q) (by kernel_rfl) ⟨a0, ⟨a1, a2⟩, a3, a4, a5⟩ (fun hHeld => ?_)
        (refine wpAnyH_take (i := 0) (v := ?_) rfl (by kernel_rfl) (by kernel_rfl) (by kernel_rfl) (fun _ _ _ h => h) (Or.inl ⟨by rfl, ?rt⟩) (by assumption) ?_; case rt => (intro w hSw; (try dsimp only at hSw); go_simp; (try with_reducible rfl))); (try simp only [Act.put, List.getElem_toArray, List.getElem_cons_succ, List.getElem_cons_zero, List.setIfInBounds_toArray, List.set_cons_zero, List.set_cons_succ])
        (refine wpAnyH_take (i := 1) (v := ?_) rfl (by kernel_rfl) (by kernel_rfl) (by kernel_rfl) (fun _ _ _ h => h) (Or.inl ⟨by rfl, ?rt⟩) (by assumption) ?_; case rt => (intro w hSw; (try dsimp only at hSw); go_simp; (try with_reducible rfl))); (try simp only [Act.put, List.getElem_toArray, List.getElem_cons_succ, List.getElem_cons_zero, List.setIfInBounds_toArray, List.set_cons_zero, List.set_cons_succ])
        (refine wpAnyH_take (i := 2) (v := ?_) rfl (by kernel_rfl) (by kernel_rfl) (by kernel_rfl) (fun _ _ _ h => h) (Or.inl ⟨by rfl, ?rt⟩) (by assumption) ?_; case rt => (intro w hSw; (try dsimp only at hSw); go_simp; (try with_reducible rfl))); (try simp only [Act.put, List.getElem_toArray, List.getElem_cons_succ, List.getElem_cons_zero, List.setIfInBounds_toArray, List.set_cons_zero, List.set_cons_succ])
        (refine wpAnyH_take (i := 3) (v := ?_) rfl (by kernel_rfl) (by kernel_rfl) (by kernel_rfl) (fun _ _ _ h => h) (Or.inl ⟨by rfl, ?rt⟩) (by assumption) ?_; case rt => (intro w hSw; (try dsimp only at hSw); go_simp; (try with_reducible rfl))); (try simp only [Act.put, List.getElem_toArray, List.getElem_cons_succ, List.getElem_cons_zero, List.setIfInBounds_toArray, List.set_cons_zero, List.set_cons_succ])
        (refine wpAnyH_take (i := 4) (v := ?_) rfl (by kernel_rfl) (by kernel_rfl) (by kernel_rfl) (fun _ _ _ h => h) (Or.inl ⟨by rfl, ?rt⟩) (by assumption) ?_; case rt => (intro w hSw; (try dsimp only at hSw); go_simp; (try with_reducible rfl))); (try simp only [Act.put, List.getElem_toArray, List.getElem_cons_succ, List.getElem_cons_zero, List.setIfInBounds_toArray, List.set_cons_zero, List.set_cons_succ])
        (refine wpAnyH_take (i := 5) (v := ?_) rfl (by kernel_rfl) (by kernel_rfl) (by kernel_rfl) (fun _ _ _ h => h) (Or.inl ⟨by rfl, ?rt⟩) (by assumption) ?_; case rt => (intro w hSw; (try dsimp only at hSw); go_simp; (try with_reducible rfl))); (try simp only [Act.put, List.getElem_toArray, List.getElem_cons_succ, List.getElem_cons_zero, List.setIfInBounds_toArray, List.set_cons_zero, List.set_cons_succ])
        refine wpAnyH_ready (rs := [6]) (by kernel_rfl) (by simp) ?_
        refine AllReadyH.cons rfl (fun K hK => ?_) AllReadyH.nil
        go_simp
        refine (PT.out W.drew (HMq.out.blk rfl)).mono ?_
        rintro e w7 ⟨rfl, hm7, ht7⟩
        refine hK.out _ _ ⟨ht7.cell l0 (by omega) a0, ⟨ht7.cell l1 (by omega) a1, ht7.cell l1 (by omega) a2⟩, ht7.cell l3 hpm6 a3, ht7.cell l4 hbm a4, ht7.cell l4 hbm a5⟩ (fun hHeld => ?_); clear hK K; (try simp only [Act.put, List.getElem_toArray, List.getElem_cons_succ, List.getElem_cons_zero, List.setIfInBounds_toArray, List.set_cons_zero, List.set_cons_succ])
        refine wpAnyH_done (by kernel_rfl) ?_ _
        clear hHeld
        have ht8 : Tch (fun k => k = mp) W w7 := (tch_drew _ W).more ht7
        exact ⟨kp_from hmp6 (ht8.mono (fun b e => .inl e)), ht8.mono (fun b e => .inl e), ⟨HKp.out.more (ht8.mono (fun b e => .inl e)), by
          rw [HMP.out, HPN.out]
          exact hm7⟩⟩
      case done =>
        rintro D ys W hD hall ⟨hKp, hMq⟩ hKd
        have HALL := Lib.hid hall
        have HKp := Lib.hid hKp
        have HMq := Lib.hid hMq
        have HKd := Lib.hid hKd
        clear hall hKp hMq hKd
        gi_wp2
        refine ⟨by simp, .inl ⟨_, _, rfl, run_takeDeferred HKd.out, ?_⟩⟩
        have t6 : KpM mp w6.heap.size w6 (W.putObj D (.deferred none)) := HKp.out.more (kp_put W D _ hD)
        have hMq2 : MapQ (W.putObj D (.deferred none)) mp (partsK K (x, y) (ys.map (fun x => x.1))).length (prF (partsK K (x, y) (ys.map (fun x => x.1)))) := HMq.out.blk (World.putObj_heap_other (by omega))
        have hI := I6.out.pairs hMq2 (fun b _ hb hne => t6.block b hb (fun e => e.elim hne (fun e => by omega)))
        obtain ⟨hT2, hTM2⟩ := hI.tight
        have hgl : ∀ b, b < n0 → (own4 pa mp sp v b ∨ n0 + 3 ≤ b) → M b := fun b hb e => e.elim (fun e => (HTM.out b e).1) (fun e => by omega)
        have HN := HN0.out
        have hT6 := HT6.out
        have hnw : ∀ b, (own4 pa mp sp v b ∨ n0 + 3 ≤ b) → b < (W.putObj D (.deferred none)).heap.size → New M w (W.putObj D (.deferred none)) b := fun b e h2 => e.elim (fun e => .inl (HTM.out b e).1) (fun e => .inr ⟨by omega, h2⟩)
        refine ⟨_, results_tmp rfl _ _ _, rfl, ⟨mp, sp, v', _, hT2.mono (fun b e => hnw b (hTM2 b e).1 (hTM2 b e).2), KOf.drop ho hs hK HALL.out, ho.without (x, y), hok1⟩, ?_⟩
        refine tch_final (hT6.bel hb6) t6 (fun b hb e => hgl b (by omega) e) (fun b hb e => e.elim (fun e => by rw [e]; exact (HTM.out mp (.inr (.inl rfl))).1) (fun e => by have h1 := hT6.size; have h2 := hb6.size; omega))
      case stop =>
        rintro D c pre W _ _ h _
        exact h.elim
end
end Go.Proofs.YtbodefigeiaodaaDoor
