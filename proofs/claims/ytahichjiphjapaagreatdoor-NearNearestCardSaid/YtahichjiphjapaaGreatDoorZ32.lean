import Derived.Test.YtahichjiphjapaaGreatDoorZ47

/-
  Package quad: a box is put.
-/
namespace Go.Proofs.YtahichjiphjapaaGreatDoor
set_option linter.unusedSimpArgs false
set_option linter.unusedVariables false
open Go.RowKit Go.Sort Go.Lib Go.Shelf

section
variable {w : World} {M : Nat → Prop} {pt : Nat} {B : List Bxd} {eR eN eF : TypeId × Value}
set_option maxHeartbeats 4000000 in
set_option maxRecDepth 100000 in
theorem putT_do (hp : TrAt w M pt B) (hM : ∀ b, M b → b < w.heap.size) (x y a b c d : Int) (hx : HdOk (x, y)) (he : errB (a, b, c, d) = 0) (hl : B.length ≤ 1000) (hE : Er3 w eR eN eF) :
    Calls Tryz.prog 25 #[.pointer (some ⟨pt, 0, none⟩), .agg #[.int .i64 x, .int .i64 y], .agg #[.int .i64 a, .int .i64 b, .int .i64 c, .int .i64 d]] w fun e w' => e = .returned .nilIface ∧ TrAt w' (New M w w') pt (woB B (x, y) ++ [((x, y), (a, b, c, d))]) ∧ Tch M w w' := by
  obtain ⟨hR, hW⟩ := errB_zero.1 he
  have HP := Lib.hid hp
  obtain ⟨hb, hhb⟩ : ∃ hb, hb = w.heap.size := ⟨_, rfl⟩
  obtain ⟨W1, hW1⟩ : ∃ W1, W1 = (w.alloc (.cells #[.int .i64 x, .int .i64 y] 42)).alloc (.cells #[.int .i64 a, .int .i64 b, .int .i64 c, .int .i64 d] 45) := ⟨_, rfl⟩
  have B1 : RowKit.Below w.heap.size w W1 := by rw [hW1]; exact Ba (Ba (Below.refl _ w) _) _
  obtain ⟨k1, k2⟩ := three_blk (w := w) (o1 := .cells #[.int .i64 x, .int .i64 y] 42) (o2 := .cells #[.int .i64 a, .int .i64 b, .int .i64 c, .int .i64 d] 45) (w3 := W1) (by rw [hW1]; exact Below.refl _ _)
  have hs1 : W1.heap.size = w.heap.size + 2 := by rw [hW1]; simp
  rw [← hhb] at k1 k2
  have HW1 := Lib.hid hW1
  have HHB := Lib.hid hhb
  have OC := Lib.hid (qOf_ok a b c d W1 hR hW)
  obtain ⟨D, c2, c3, hd8, hce, hx0, hx1, hy0, hy1⟩ := cell_fine hR hW
  have HWB := Lib.hid (show wayB (a, b, c, d) = wayC D c2 c3 by unfold wayB; rw [hce]; rfl)
  rw [hce] at OC
  have HRW := Lib.hid (And.intro hR hW)
  have K1 := Lib.hid k1
  have K2 := Lib.hid k2
  have HB1 := Lib.hid B1
  clear hce hR hW he hp hW1 hhb k1 k2 B1
  go_enter Tryz.func25, Tryz.ntmps25
  go_wp2_with fail
  rw [← HW1.out, ← HHB.out]
  refine OC.out.mono ?_
  rintro e w2 ⟨rfl, hb2⟩
  have hs2 := hb2.size
  obtain ⟨bc, hbc⟩ : ∃ bc, bc = w2.heap.size := ⟨_, rfl⟩
  obtain ⟨W3, hW3⟩ : ∃ W3, W3 = w2.alloc (.cells #[.int .i64 D, .int .i64 c2, .int .i64 c3] 87) := ⟨_, rfl⟩
  have k3 := heap_alloc_new w2 (.cells #[.int .i64 D, .int .i64 c2, .int .i64 c3] 87)
  have hs3 : W3.heap.size = w2.heap.size + 1 := by rw [hW3]; simp
  have b23 : RowKit.Below w2.heap.size w2 W3 := by rw [hW3]; exact Ba (Below.refl _ _) _
  have B3 := Lib.hid (Bt (Bt HB1.out hb2) b23)
  have k1 := blk_below (blk_below K1.out hb2) b23
  have k2 := blk_below (blk_below K2.out hb2) b23
  rw [← hW3, ← hbc] at k3
  have q1 : W3.cell? ⟨hb, 0, none⟩ = some (.int .i64 x) ∧ W3.cell? ⟨hb, 1, none⟩ = some (.int .i64 y) := ⟨by rw [blk_cell k1]; rfl, by rw [blk_cell k1]; rfl⟩
  have g1 : w2.cell? ⟨hb, 0, none⟩ = some (.int .i64 x) ∧ w2.cell? ⟨hb, 1, none⟩ = some (.int .i64 y) := ⟨by rw [blk_cell (blk_below K1.out hb2)]; rfl, by rw [blk_cell (blk_below K1.out hb2)]; rfl⟩
  have hhl : hb < w2.heap.size := by have := HHB.out; omega
  have HBC := Lib.hid hbc
  have HW3 := Lib.hid hW3
  have K13 := Lib.hid k1
  have K23 := Lib.hid k2
  have K33 := Lib.hid k3
  have DC := Lib.hid (dropT_any ((fr_tr pt B).below HP.out B3.out) (fun b e => Nat.lt_of_lt_of_le (hM b e) B3.out.size) x y hx hl (hE.below B3.out))
  have hs3' : W3.heap.size = bc + 1 := by omega
  clear hbc hW3 k1 k2 k3 hb2 b23 q1 OC hE hs3
  go_wp2_with fail
  rw [← HW3.out, ← HBC.out]
  refine DC.out.mono ?_
  rintro e w4 ⟨⟨r, rfl⟩, ⟨mb, R, rv, q, hI⟩, hT4⟩
  have HI := Lib.hid hI
  have T4 := Lib.hid hT4
  have hs4 := hT4.size
  have hnM : ∀ z, w.heap.size ≤ z → ¬ M z := fun z hz e => by have := hM z e; omega
  have k1 := hT4.blk K13.out (hnM hb (by rw [HHB.out]; omega))
  have k2 := hT4.blk K23.out (hnM (hb + 1) (by rw [HHB.out]; omega))
  have k3 := hT4.blk K33.out (hnM bc (by rw [HBC.out]; omega))
  have hpl : pt < w4.heap.size := cell_lt hI.cells.1
  clear hI hT4 DC
  obtain ⟨w5, hrun, hm5, hg5⟩ := (HI.out.map.below (Bd (Below.refl _ w4))).put mptB (by have := woB_len B (x, y); omega) (x, y) hx (a, b, c, d)
  have hno : boxF (woB B (x, y)) (x, y) = none := boxF_none.2 fun z hz => (mem_woB.1 hz).2
  rw [hno] at hm5
  have HM5 := Lib.hid ((hm5.cnt (show (if (none : Option Bx4).isSome then (woB B (x, y)).length else (woB B (x, y)).length + 1) = (woB B (x, y) ++ [((x, y), (a, b, c, d))]).length by simp)).congr (g := boxF (woB B (x, y) ++ [((x, y), (a, b, c, d))])) (fun z => boxF_put HI.out.once hno (a, b, c, d) z))
  have T5 : Tch (fun b => b = mb) w4 w5 := ⟨hg5.os, hg5.tape, hg5.output, hg5.size, fun k hk hn => hg5.block k hk (fun e => hn (by cases e; rfl))⟩
  have hnm : ∀ z, w.heap.size ≤ z → z < W3.heap.size → z ≠ mb := fun z h1 h2 e => by
    rcases HI.out.inM with c | c
    · exact hnM mb (e ▸ h1) c
    · omega
  have hbc3 : bc < W3.heap.size := by omega
  have HBX := Lib.hid (show w.heap.size ≤ hb ∧ hb + 1 < bc ∧ w.heap.size ≤ bc by have := HHB.out; have := HBC.out; omega)
  obtain ⟨hx1_, hx2_, hx3_⟩ := HBX.out
  unfold mH bxV at hrun
  dsimp only at hrun
  have q1 : w4.cell? ⟨hb, 0, none⟩ = some (.int .i64 x) ∧ w4.cell? ⟨hb, 1, none⟩ = some (.int .i64 y) := ⟨by rw [blk_cell k1]; rfl, by rw [blk_cell k1]; rfl⟩
  have q2 := cells4 k2
  have qp := HI.out.cells.1
  have j1 := T5.blk k1 (hnm hb (by omega) (by omega))
  have j2 := T5.blk k2 (hnm (hb + 1) (by omega) (by omega))
  have j3 := T5.blk k3 (hnm bc (by omega) (by omega))
  have jp := T5.blk HI.out.blk HI.out.ne
  have q1_ : w5.cell? ⟨hb, 0, none⟩ = some (.int .i64 x) ∧ w5.cell? ⟨hb, 1, none⟩ = some (.int .i64 y) := ⟨by rw [blk_cell j1]; rfl, by rw [blk_cell j1]; rfl⟩
  have q2_ := cells4 j2
  have qp_ : w5.cell? ⟨pt, 0, none⟩ = some (.map (some mb)) := by rw [blk_cell jp]; rfl
  have K35 := Lib.hid j3
  have KPT := Lib.hid jp
  clear hm5 hg5 k1 k2 k3 j1 j2 j3 jp hnm
  go_wp2_with fail
  refine wp_region_held_drew (S := fun W => (W.cell? ⟨hb, 0, none⟩ = some (.int .i64 x) ∧ W.cell? ⟨hb, 1, none⟩ = some (.int .i64 y)) ∧ (W.cell? ⟨hb + 1, 0, none⟩ = some (.int .i64 a) ∧ W.cell? ⟨hb + 1, 1, none⟩ = some (.int .i64 b) ∧ W.cell? ⟨hb + 1, 2, none⟩ = some (.int .i64 c) ∧ W.cell? ⟨hb + 1, 3, none⟩ = some (.int .i64 d)) ∧ W.cell? ⟨pt, 0, none⟩ = some (.map (some mb))) (by kernel_rfl) ⟨q1, q2, qp⟩ (fun hHeld => ?_)
  (refine wpAnyH_take (i := 0) (v := ?_) rfl (by kernel_rfl) (by kernel_rfl) (by kernel_rfl) (fun _ _ _ h => h) (Or.inl ⟨by rfl, ?rt⟩) (by assumption) ?_; case rt => (intro w hSw; (try dsimp only at hSw); go_simp; (try with_reducible rfl))); (try simp only [Act.put, List.getElem_toArray, List.getElem_cons_succ, List.getElem_cons_zero, List.setIfInBounds_toArray, List.set_cons_zero, List.set_cons_succ])
  (refine wpAnyH_take (i := 1) (v := ?_) rfl (by kernel_rfl) (by kernel_rfl) (by kernel_rfl) (fun _ _ _ h => h) (Or.inl ⟨by rfl, ?rt⟩) (by assumption) ?_; case rt => (intro w hSw; (try dsimp only at hSw); go_simp; (try with_reducible rfl))); (try simp only [Act.put, List.getElem_toArray, List.getElem_cons_succ, List.getElem_cons_zero, List.setIfInBounds_toArray, List.set_cons_zero, List.set_cons_succ])
  (refine wpAnyH_take (i := 2) (v := ?_) rfl (by kernel_rfl) (by kernel_rfl) (by kernel_rfl) (fun _ _ _ h => h) (Or.inl ⟨by rfl, ?rt⟩) (by assumption) ?_; case rt => (intro w hSw; (try dsimp only at hSw); go_simp; (try with_reducible rfl))); (try simp only [Act.put, List.getElem_toArray, List.getElem_cons_succ, List.getElem_cons_zero, List.setIfInBounds_toArray, List.set_cons_zero, List.set_cons_succ])
  (refine wpAnyH_take (i := 3) (v := ?_) rfl (by kernel_rfl) (by kernel_rfl) (by kernel_rfl) (fun _ _ _ h => h) (Or.inl ⟨by rfl, ?rt⟩) (by assumption) ?_; case rt => (intro w hSw; (try dsimp only at hSw); go_simp; (try with_reducible rfl))); (try simp only [Act.put, List.getElem_toArray, List.getElem_cons_succ, List.getElem_cons_zero, List.setIfInBounds_toArray, List.set_cons_zero, List.set_cons_succ])
  (refine wpAnyH_take (i := 4) (v := ?_) rfl (by kernel_rfl) (by kernel_rfl) (by kernel_rfl) (fun _ _ _ h => h) (Or.inl ⟨by rfl, ?rt⟩) (by assumption) ?_; case rt => (intro w hSw; (try dsimp only at hSw); go_simp; (try with_reducible rfl))); (try simp only [Act.put, List.getElem_toArray, List.getElem_cons_succ, List.getElem_cons_zero, List.setIfInBounds_toArray, List.set_cons_zero, List.set_cons_succ])
  (refine wpAnyH_take (i := 5) (v := ?_) rfl (by kernel_rfl) (by kernel_rfl) (by kernel_rfl) (fun _ _ _ h => h) (Or.inl ⟨by rfl, ?rt⟩) (by assumption) ?_; case rt => (intro w hSw; (try dsimp only at hSw); go_simp; (try with_reducible rfl))); (try simp only [Act.put, List.getElem_toArray, List.getElem_cons_succ, List.getElem_cons_zero, List.setIfInBounds_toArray, List.set_cons_zero, List.set_cons_succ])
  refine wpAnyH_ready (rs := [6]) (by kernel_rfl) (by simp) ?_
  refine AllReadyH.cons rfl (fun K hK => ?_) AllReadyH.nil
  go_simp
  refine hK.out _ _ ⟨q1_, q2_, qp_⟩ (fun hHeld => ?_); clear hK K; (try simp only [Act.put, List.getElem_toArray, List.getElem_cons_succ, List.getElem_cons_zero, List.setIfInBounds_toArray, List.set_cons_zero, List.set_cons_succ])
  refine wpAnyH_done (by kernel_rfl) ?_ _
  have TT := Lib.hid (((Tch.of B3.out : Tch M w W3).more T4.out))
  have T5' := Lib.hid T5
  have hs5' := T5.size
  clear hHeld hrun T5 q1 q2 qp g1
  obtain ⟨q1, q2, q3_, q4⟩ := q
  obtain ⟨p, cap, rfl, hcap, hcm⟩ := HI.out.nd.val
  have WC := Lib.hid (fun W => way_call D c2 c3 W hd8 hx0 hx1 hy0 hy1)
  have hmf : ∀ (fn : Fn) (first cap : Array Value) (w : World), (Instr.makeFunc fn first cap).run Tryz.prog w = .ok (.func fn first cap) w := fun _ _ _ _ => rfl
  have hND := HI.out.nd.kept T5'.out (fun b hb => hb.2.2)
  have HND := Lib.hid hND
  have hdo : Does w5 48 #[.pointer (some ⟨hb, 0, none⟩), .pointer (some ⟨hb + 1, 0, none⟩)] (R (wayC D c2 c3)) (insL (R (wayC D c2 c3)) ((x, y), (a, b, c, d))) := fun W rv hbW hv =>
    put1_call _ x y a b c d hb (hb + 1) rv W hv (HI.out.rows.rise _) (Nat.le_trans (nodup_sub_len (HI.out.rows.nodup _) (fun z hz => ((HI.out.rows.mem _ z).1 hz).1)) (by have := woB_len B (x, y); omega)) ⟨Bc hbW (cell_lt q1_.1) q1_.1, Bc hbW (cell_lt q1_.2) q1_.2⟩ ⟨Bc hbW (cell_lt q2_.1) q2_.1, Bc hbW (cell_lt q2_.1) q2_.2.1, Bc hbW (cell_lt q2_.1) q2_.2.2.1, Bc hbW (cell_lt q2_.1) q2_.2.2.2⟩
  have hen : ∀ args w, (callFunc 48 args).run Tryz.prog w = .ok (.enter 48 args) w := enters_of Tryz.func48 (by kernel_rfl) rfl
  have CH := Lib.hid (changed_call hdo hen 8)
  obtain ⟨c1, cc1, cc2, cc3, cc4, cc5⟩ := cells6 KPT.out
  obtain ⟨⟨e1, e2, e3⟩, -⟩ := cells3 K35.out
  clear hdo hND hcap hcm
  have hbcl := cell_lt e1
  have hpcl := cell_lt c1
  have hhbl := cell_lt q1_.1
  go_wp2_with fail
  refine wp_region_held_drew (S := fun W => Tch (fun b => b = pt) w5 W ∧ (W.cell? ⟨bc, 0, none⟩ = some (.int .i64 D) ∧ W.cell? ⟨bc, 1, none⟩ = some (.int .i64 c2) ∧ W.cell? ⟨bc, 2, none⟩ = some (.int .i64 c3))) (by kernel_rfl) ⟨(Tch.refl _ _).drew, e1, e2, e3⟩ (fun hHeld => ?_)
  (refine wpAnyH_take (i := 0) (v := ?_) rfl (by kernel_rfl) (by kernel_rfl) (by kernel_rfl) (fun _ _ _ h => h) (Or.inl ⟨by rfl, ?rt⟩) (by assumption) ?_; case rt => (intro w hSw; (try dsimp only at hSw); go_simp; (try with_reducible rfl))); (try simp only [Act.put, List.getElem_toArray, List.getElem_cons_succ, List.getElem_cons_zero, List.setIfInBounds_toArray, List.set_cons_zero, List.set_cons_succ])
  (refine wpAnyH_take (i := 1) (v := ?_) rfl (by kernel_rfl) (by kernel_rfl) (by kernel_rfl) (fun _ _ _ h => h) (Or.inl ⟨by rfl, ?rt⟩) (by assumption) ?_; case rt => (intro w hSw; (try dsimp only at hSw); go_simp; (try with_reducible rfl))); (try simp only [Act.put, List.getElem_toArray, List.getElem_cons_succ, List.getElem_cons_zero, List.setIfInBounds_toArray, List.set_cons_zero, List.set_cons_succ])
  (refine wpAnyH_take (i := 2) (v := ?_) rfl (by kernel_rfl) (by kernel_rfl) (by kernel_rfl) (fun _ _ _ h => h) (Or.inl ⟨by rfl, ?rt⟩) (by assumption) ?_; case rt => (intro w hSw; (try dsimp only at hSw); go_simp; (try with_reducible rfl))); (try simp only [Act.put, List.getElem_toArray, List.getElem_cons_succ, List.getElem_cons_zero, List.setIfInBounds_toArray, List.set_cons_zero, List.set_cons_succ])
  (refine wpAnyH_take (i := 3) (v := ?_) rfl (by kernel_rfl) (by kernel_rfl) (by kernel_rfl) (fun _ _ _ h => h) (Or.inl ⟨by rfl, ?rt⟩) (by assumption) ?_; case rt => (intro w hSw; (try dsimp only at hSw); go_simp; (try with_reducible rfl))); (try simp only [Act.put, List.getElem_toArray, List.getElem_cons_succ, List.getElem_cons_zero, List.setIfInBounds_toArray, List.set_cons_zero, List.set_cons_succ])
  (refine wpAnyH_take (i := 5) (v := ?_) rfl (by kernel_rfl) (by kernel_rfl) (by kernel_rfl) (fun _ _ _ h => h) (Or.inl ⟨by rfl, ?rt⟩) (by assumption) ?_; case rt => (intro w hSw; (try dsimp only at hSw); go_simp; (try with_reducible rfl))); (try simp only [Act.put, List.getElem_toArray, List.getElem_cons_succ, List.getElem_cons_zero, List.setIfInBounds_toArray, List.set_cons_zero, List.set_cons_succ])
  (refine wpAnyH_take (i := 7) (v := ?_) rfl (by kernel_rfl) (by kernel_rfl) (by kernel_rfl) (fun _ _ _ h => h) (Or.inl ⟨by rfl, ?rt⟩) (by assumption) ?_; case rt => (intro w hSw; (try dsimp only at hSw); go_simp; (try with_reducible rfl))); (try simp only [Act.put, List.getElem_toArray, List.getElem_cons_succ, List.getElem_cons_zero, List.setIfInBounds_toArray, List.set_cons_zero, List.set_cons_succ])
  refine wpAnyH_ready (rs := [4, 6]) (by kernel_rfl) (by simp) ?_
  refine AllReadyH.cons rfl (fun K hK => ?_) (AllReadyH.cons rfl (fun K hK => ?_) AllReadyH.nil)
  case' refine_1 =>
    go_simp
    refine hK.out _ _ hHeld (fun hHeld => ?_)
    clear hK K
    (try simp only [Act.put, List.getElem_toArray, List.getElem_cons_succ, List.getElem_cons_zero, List.setIfInBounds_toArray, List.set_cons_zero, List.set_cons_succ])
    (refine wpAnyH_ready (rs := [6]) (by kernel_rfl) (by simp) ?_; refine AllReadyH.cons rfl (fun K hK => ?_) AllReadyH.nil; go_simp)
    refine (WC.out _).mono ?_
    rintro e w6 ⟨vw, rfl, hsw, hb5⟩
    refine hK.out _ _ ⟨hHeld.1.bel hb5, Bc hb5 (cell_lt hHeld.2.1) hHeld.2.1, Bc hb5 (cell_lt hHeld.2.2.1) hHeld.2.2.1, Bc hb5 (cell_lt hHeld.2.2.2) hHeld.2.2.2⟩ (fun hHeld => ?_)
    clear hK K
    (try simp only [Act.put, List.getElem_toArray, List.getElem_cons_succ, List.getElem_cons_zero, List.setIfInBounds_toArray, List.set_cons_zero, List.set_cons_succ])
  case' refine_2 =>
    go_simp
    refine (WC.out _).mono ?_
    rintro e w6 ⟨vw, rfl, hsw, hb5⟩
    refine hK.out _ _ ⟨hHeld.1.bel hb5, Bc hb5 (cell_lt hHeld.2.1) hHeld.2.1, Bc hb5 (cell_lt hHeld.2.2.1) hHeld.2.2.1, Bc hb5 (cell_lt hHeld.2.2.2) hHeld.2.2.2⟩ (fun hHeld => ?_)
    clear hK K
    (try simp only [Act.put, List.getElem_toArray, List.getElem_cons_succ, List.getElem_cons_zero, List.setIfInBounds_toArray, List.set_cons_zero, List.set_cons_succ])
    replace c1 := Bc hb5 hpcl c1
    replace cc1 := Bc hb5 hpcl cc1
    replace cc2 := Bc hb5 hpcl cc2
    replace cc3 := Bc hb5 hpcl cc3
    replace cc4 := Bc hb5 hpcl cc4
    replace cc5 := Bc hb5 hpcl cc5
    (refine wpAnyH_ready (rs := [4]) (by kernel_rfl) (by simp) ?_; refine AllReadyH.cons rfl (fun K hK => ?_) AllReadyH.nil; go_simp)
    refine hK.out _ _ hHeld (fun hHeld => ?_)
    clear hK K
    (try simp only [Act.put, List.getElem_toArray, List.getElem_cons_succ, List.getElem_cons_zero, List.setIfInBounds_toArray, List.set_cons_zero, List.set_cons_succ])
  all_goals
    have hb5' : RowKit.Below w5.heap.size w5 w6 := Bt (Bd (Below.refl _ w5)) hb5
    have CC := Lib.hid (CH.out (wayC D c2 c3) w6 (Nds (New M W3 w4) pt mb) R (.agg #[.slice p (R []).length cap, .pointer (aV q1), .pointer (aV q2), .pointer (aV q3_), .pointer (aV q4)]) vw (fun b e => by have := hb5'.size; rcases e.1 with e | e; (have := hM b e; have := B3.out.size; omega); (have := e.2; omega)) hb5' ⟨_, (q1, q2, q3_, q4), rfl, HND.out.below hb5'⟩ HI.out.rows.dig (wayC_lt _ _ _) (by rw [wayC_len]; exact hd8) rfl hsw)
    have HB5 := Lib.hid hb5'
    have hs5 := hb5'.size
    clear hb5 hb5' hsw
    (refine wpAnyH_ready (rs := [8]) (by kernel_rfl) (by simp) ?_; refine AllReadyH.cons rfl (fun K hK => ?_) AllReadyH.nil; go_simp)
    refine CC.out.mono ?_
    rintro e w7 ⟨v6, rfl, ⟨rv6, q6, rfl, hn6⟩, hb6⟩
    refine hK.out _ _ ⟨hHeld.1.bel hb6, Bc hb6 (cell_lt hHeld.2.1) hHeld.2.1, Bc hb6 (cell_lt hHeld.2.2.1) hHeld.2.2.1, Bc hb6 (cell_lt hHeld.2.2.2) hHeld.2.2.2⟩ (fun hHeld => ?_)
    clear hK K
    (try simp only [Act.put, List.getElem_toArray, List.getElem_cons_succ, List.getElem_cons_zero, List.setIfInBounds_toArray, List.set_cons_zero, List.set_cons_succ])
    (refine wpAnyH_take (i := 9) (v := ?_) rfl (by kernel_rfl) (by kernel_rfl) (by kernel_rfl) (fun _ _ _ h => h) (Or.inl ⟨by rfl, ?rt⟩) (by assumption) ?_; case rt => (intro w hSw; (try dsimp only at hSw); go_simp; (try with_reducible rfl))); (try simp only [Act.put, List.getElem_toArray, List.getElem_cons_succ, List.getElem_cons_zero, List.setIfInBounds_toArray, List.set_cons_zero, List.set_cons_succ])
    (refine wpAnyH_take (i := 10) (v := ?_) rfl (by kernel_rfl) (by kernel_rfl) (by kernel_rfl) (fun _ _ _ h => h) (Or.inl ⟨by rfl, ?rt⟩) (by assumption) ?_; case rt => (intro w hSw; (try dsimp only at hSw); go_simp; (try with_reducible rfl))); (try simp only [Act.put, List.getElem_toArray, List.getElem_cons_succ, List.getElem_cons_zero, List.setIfInBounds_toArray, List.set_cons_zero, List.set_cons_succ])
    have HB6 := Lib.hid (Bt HB5.out hb6)
    have hs6 := hb6.size
    have kpt := blk_below KPT.out HB6.out
    have HN6 := Lib.hid hn6
    obtain ⟨p6, cap6, hv6, hw7, _⟩ := hn6.val
    generalize (setR R (wayC D c2 c3) (insL (R (wayC D c2 c3)) ((x, y), (a, b, c, d))) []).length = n6 at hv6 hw7
    subst hv6
    obtain ⟨a1, a2, a3, a4⟩ := q6
    unfold ndV ndC
    dsimp only
    obtain ⟨n0, n1, n2, n3, n4, n5⟩ := cells6 kpt
    have f1 := frz0 kpt 1
    have f2 := frz0 kpt 2
    have f3 := frz0 kpt 3
    have f4 := frz0 kpt 4
    have f5 := frz0 kpt 5
    have hnb : bc ≠ pt := fun e => by rcases HI.out.inT with c | c; exact hnM pt (by have := HBX.out; omega) c; omega
    have HH6 := Lib.hid hHeld
    have HKP := Lib.hid kpt
    clear hHeld kpt hb6 hn6
    (refine wpAnyH_ready (rs := [11]) (by kernel_rfl) (by simp) ?_; refine AllReadyH.cons rfl (fun K hK => ?_) AllReadyH.nil; go_simp)
    refine hK.out _ _ ⟨tch51 (M := fun b => b = pt) (p := pt) HH6.out.1 rfl _ _ _ _ _, by simp [World.cell?_setCell_other, hnb, HH6.out.2.1, HH6.out.2.2.1, HH6.out.2.2.2]⟩ (fun hHeld => ?_)
    clear hK K
    (try simp only [Act.put, List.getElem_toArray, List.getElem_cons_succ, List.getElem_cons_zero, List.setIfInBounds_toArray, List.set_cons_zero, List.set_cons_succ])
    refine wpAnyH_done (by kernel_rfl) ?_ _
    have K7 := set5 (b1 := .slice p6 n6 cap6) (b2 := .pointer (aV a1)) (b3 := .pointer (aV a2)) (b4 := .pointer (aV a3)) (b5 := .pointer (aV a4)) HKP.out
    have T7 := tch51 (M := fun b => b = pt) (p := pt) (Tch.refl _ w7) rfl (.slice p6 n6 cap6) (.pointer (aV a1)) (.pointer (aV a2)) (.pointer (aV a3)) (.pointer (aV a4))
    have HK7 := Lib.hid K7
    have HT7 := Lib.hid T7
    clear hHeld K7 T7 n0 n1 n2 n3 n4 n5 f1 f2 f3 f4 f5 hmf
    generalize (((((w7.setCell ⟨pt, 1, none⟩ (.slice p6 n6 cap6)).setCell ⟨pt, 2, none⟩ (.pointer (aV a1))).setCell ⟨pt, 3, none⟩ (.pointer (aV a2))).setCell ⟨pt, 4, none⟩ (.pointer (aV a3))).setCell ⟨pt, 5, none⟩ (.pointer (aV a4))) = w8 at *
    go_wp2
    go_ret
    have hs34 := T4.out.size
    have hn4 : ∀ z, New M W3 w4 z → M z ∨ (w.heap.size ≤ z ∧ z < w4.heap.size) := fun z e => e.elim .inl fun e => .inr ⟨Nat.le_trans B3.out.size e.1, e.2⟩
    have hT5 : Tch M w w5 := TT.out.trans (T5'.out.mono fun b e => by rw [e]; exact hn4 mb HI.out.inM)
    have hT : Tch M w w8 := (hT5.bel HB6.out).trans (HT7.out.mono fun b e => by
      rw [e]
      rcases hn4 pt HI.out.inT with c | c
      · exact .inl c
      · exact .inr ⟨c.1, by omega⟩)
    have hup : ∀ z, New M W3 w4 z → New M w w8 z := fun z e => by
      have := HT7.out.size
      rcases hn4 z e with c | c
      · exact .inl c
      · exact .inr ⟨c.1, by omega⟩
    refine ⟨rfl, ⟨mb, setR R (wayC D c2 c3) (insL (R (wayC D c2 c3)) ((x, y), (a, b, c, d))), .slice p6 n6 cap6, (a1, a2, a3, a4), ?_⟩, hT⟩
    exact { inT := hup _ HI.out.inT, inM := hup _ HI.out.inM, ne := HI.out.ne, blk := HK7.out, map := ((HM5.out.below HB6.out).kept HT7.out (fun e => HI.out.ne e.symm)), nd := NdV.mono (fun b e => by
              rcases e with e | e
              · exact ⟨hup _ e.1, e.2⟩
              · have := HT7.out.size
                have := HI.out.map.lt
                exact ⟨.inr ⟨by omega, by omega⟩, by omega, by omega⟩) (HN6.out.kept HT7.out (fun b e => by
              rcases e with e | e
              · exact e.2.1
              · omega)), rows := by
              have := HI.out.rows.put ((x, y), (a, b, c, d)) (fun z hz => (mem_woB.1 hz).2)
              rwa [HWB.out] at this
            ok := fun z hz => by
              rcases List.mem_append.1 hz with hz | hz
              · exact HI.out.ok z hz
              · rw [List.mem_singleton.1 hz]
                exact HRW.out
            once := by
              have := once_put HI.out.once (x, y) (a, b, c, d)
              rwa [woB_none hno] at this
            hds := fun z hz => by
              rcases List.mem_append.1 hz with hz | hz
              · exact HI.out.hds z hz
              · rw [List.mem_singleton.1 hz]
                exact hx }
end
end Go.Proofs.YtahichjiphjapaaGreatDoor
