import Derived.Test.YtahichjiphjapaaGreatDoorZ35

/-
  Package quad: a handle's box is dropped.
-/
namespace Go.Proofs.YtahichjiphjapaaGreatDoor
set_option linter.unusedSimpArgs false
set_option linter.unusedVariables false
open Go.RowKit Go.Sort Go.Lib Go.Shelf

section
variable {w : World} {M : Nat → Prop} {pt : Nat} {B : List Bxd}
set_option maxHeartbeats 4000000 in
set_option maxRecDepth 100000 in
theorem dropT_do (hp : TrAt w M pt B) (hM : ∀ b, M b → b < w.heap.size) (x y : Int) (hx : HdOk (x, y)) {b : Bx4} (hm : ((x, y), b) ∈ B) (hl : B.length ≤ 1000) :
    Calls Tryz.prog 45 #[.pointer (some ⟨pt, 0, none⟩), .agg #[.int .i64 x, .int .i64 y]] w fun e w' => e = .returned .nilIface ∧ TrAt w' (New M w w') pt (woB B (x, y)) ∧ Tch M w w' := by
  obtain ⟨mb, R, rv, q, hI⟩ := hp
  have HI := Lib.hid hI
  have ho := hI.once
  obtain ⟨hR, hW⟩ := hI.ok _ hm
  have hbf := boxF_mem ho hm
  obtain ⟨x1, x2, x3, x4⟩ := b
  have hpl := hM _ hI.inT
  have hml := hM _ hI.inM
  have hS : ∀ W, RowKit.Below (w.alloc (.cells #[.int .i64 x, .int .i64 y] 42)).heap.size (w.alloc (.cells #[.int .i64 x, .int .i64 y] 42)) W → (W.cell? ⟨w.heap.size, 0, none⟩ = some (.int .i64 x) ∧ W.cell? ⟨w.heap.size, 1, none⟩ = some (.int .i64 y)) ∧ W.cell? ⟨pt, 0, none⟩ = some (.map (some mb)) ∧ (Instr.lookup MapBT (.map (some mb)) (.agg #[.int .i64 x, .int .i64 y]) true).run Tryz.prog W = .ok (.tuple #[.agg #[.int .i64 x1, .int .i64 x2, .int .i64 x3, .int .i64 x4], .bool true]) W := by
    intro W hW
    have k1 := blk_below (heap_alloc_new w (.cells #[.int .i64 x, .int .i64 y] 42)) hW
    have bW : RowKit.Below w.heap.size w W := Bt (Ba (Below.refl _ w) _) hW
    have h2 := (hI.map.below bW).look2 mptB (x, y) hx
    rw [hbf] at h2
    exact ⟨⟨by rw [blk_cell k1]; rfl, by rw [blk_cell k1]; rfl⟩, Bc bW hpl hI.cells.1, h2⟩
  clear hI
  go_enter Tryz.func45, Tryz.ntmps45
  go_wp2_with fail
  refine wp_region_held_drew (S := fun W => (W.cell? ⟨w.heap.size, 0, none⟩ = some (.int .i64 x) ∧ W.cell? ⟨w.heap.size, 1, none⟩ = some (.int .i64 y)) ∧ W.cell? ⟨pt, 0, none⟩ = some (.map (some mb)) ∧ (Instr.lookup MapBT (.map (some mb)) (.agg #[.int .i64 x, .int .i64 y]) true).run Tryz.prog W = .ok (.tuple #[.agg #[.int .i64 x1, .int .i64 x2, .int .i64 x3, .int .i64 x4], .bool true]) W) (by kernel_rfl) (hS _ (by repeat (first | with_reducible exact Below.refl _ _ | with_reducible assumption | with_reducible apply Ba | with_reducible apply Bd | with_reducible apply Bn | with_reducible apply Bg | (with_reducible refine Bs ?_ (by first | (simp; done) | (simp; omega)) _) | (with_reducible refine Bt ?_ (by assumption)) | (with_reducible refine Bt ?_ (Gr.below (by assumption)))))) (fun hHeld => ?_)
  (refine wpAnyH_take (i := 0) (v := ?_) rfl (by kernel_rfl) (by kernel_rfl) (by kernel_rfl) (fun _ _ _ h => h) (Or.inl ⟨by rfl, ?rt⟩) (by assumption) ?_; case rt => (intro w hSw; (try dsimp only at hSw); go_simp; (try with_reducible rfl))); (try simp only [Act.put, List.getElem_toArray, List.getElem_cons_succ, List.getElem_cons_zero, List.setIfInBounds_toArray, List.set_cons_zero, List.set_cons_succ])
  (refine wpAnyH_take (i := 1) (v := ?_) rfl (by kernel_rfl) (by kernel_rfl) (by kernel_rfl) (fun _ _ _ h => h) (Or.inl ⟨by rfl, ?rt⟩) (by assumption) ?_; case rt => (intro w hSw; (try dsimp only at hSw); go_simp; (try with_reducible rfl))); (try simp only [Act.put, List.getElem_toArray, List.getElem_cons_succ, List.getElem_cons_zero, List.setIfInBounds_toArray, List.set_cons_zero, List.set_cons_succ])
  (refine wpAnyH_take (i := 2) (v := ?_) rfl (by kernel_rfl) (by kernel_rfl) (by kernel_rfl) (fun _ _ _ h => h) (Or.inl ⟨by rfl, ?rt⟩) (by assumption) ?_; case rt => (intro w hSw; (try dsimp only at hSw); go_simp; (try with_reducible rfl))); (try simp only [Act.put, List.getElem_toArray, List.getElem_cons_succ, List.getElem_cons_zero, List.setIfInBounds_toArray, List.set_cons_zero, List.set_cons_succ])
  (refine wpAnyH_take (i := 3) (v := ?_) rfl (by kernel_rfl) (by kernel_rfl) (by kernel_rfl) (fun _ _ _ h => h) (Or.inl ⟨by rfl, ?rt⟩) (by assumption) ?_; case rt => (intro w hSw; (try dsimp only at hSw); go_simp; (try with_reducible rfl))); (try simp only [Act.put, List.getElem_toArray, List.getElem_cons_succ, List.getElem_cons_zero, List.setIfInBounds_toArray, List.set_cons_zero, List.set_cons_succ])
  (refine wpAnyH_take (i := 4) (v := ?_) rfl (by kernel_rfl) (by kernel_rfl) (by kernel_rfl) (fun _ _ _ h => h) (Or.inl ⟨by rfl, ?rt⟩) (by assumption) ?_; case rt => (intro w hSw; (try dsimp only at hSw); go_simp; (try with_reducible rfl))); (try simp only [Act.put, List.getElem_toArray, List.getElem_cons_succ, List.getElem_cons_zero, List.setIfInBounds_toArray, List.set_cons_zero, List.set_cons_succ])
  (refine wpAnyH_take (i := 5) (v := ?_) rfl (by kernel_rfl) (by kernel_rfl) (by kernel_rfl) (fun _ _ _ h => h) (Or.inl ⟨by rfl, ?rt⟩) (by assumption) ?_; case rt => (intro w hSw; (try dsimp only at hSw); go_simp; (try with_reducible rfl))); (try simp only [Act.put, List.getElem_toArray, List.getElem_cons_succ, List.getElem_cons_zero, List.setIfInBounds_toArray, List.set_cons_zero, List.set_cons_succ])
  (refine wpAnyH_take (i := 6) (v := ?_) rfl (by kernel_rfl) (by kernel_rfl) (by kernel_rfl) (fun _ _ _ h => h) (Or.inl ⟨by rfl, ?rt⟩) (by assumption) ?_; case rt => (intro w hSw; (try dsimp only at hSw); go_simp; (try with_reducible rfl))); (try simp only [Act.put, List.getElem_toArray, List.getElem_cons_succ, List.getElem_cons_zero, List.setIfInBounds_toArray, List.set_cons_zero, List.set_cons_succ])
  (refine wpAnyH_take (i := 7) (v := ?_) rfl (by kernel_rfl) (by kernel_rfl) (by kernel_rfl) (fun _ _ _ h => h) (Or.inl ⟨by rfl, ?rt⟩) (by assumption) ?_; case rt => (intro w hSw; (try dsimp only at hSw); go_simp; (try with_reducible rfl))); (try simp only [Act.put, List.getElem_toArray, List.getElem_cons_succ, List.getElem_cons_zero, List.setIfInBounds_toArray, List.set_cons_zero, List.set_cons_succ])
  (refine wpAnyH_take (i := 8) (v := ?_) rfl (by kernel_rfl) (by kernel_rfl) (by kernel_rfl) (fun _ _ _ h => h) (Or.inl ⟨by rfl, ?rt⟩) (by assumption) ?_; case rt => (intro w hSw; (try dsimp only at hSw); go_simp; (try with_reducible rfl))); (try simp only [Act.put, List.getElem_toArray, List.getElem_cons_succ, List.getElem_cons_zero, List.setIfInBounds_toArray, List.set_cons_zero, List.set_cons_succ])
  refine wpAnyH_ready (rs := [9]) (by kernel_rfl) (by simp) ?_
  refine AllReadyH.cons rfl (fun K hK => ?_) AllReadyH.nil
  go_simp
  refine hK.out _ _ (hS _ (by repeat (first | with_reducible exact Below.refl _ _ | with_reducible assumption | with_reducible apply Ba | with_reducible apply Bd | with_reducible apply Bn | with_reducible apply Bg | (with_reducible refine Bs ?_ (by first | (simp; done) | (simp; omega)) _) | (with_reducible refine Bt ?_ (by assumption)) | (with_reducible refine Bt ?_ (Gr.below (by assumption)))))) (fun hHeld => ?_); clear hK K; (try simp only [Act.put, List.getElem_toArray, List.getElem_cons_succ, List.getElem_cons_zero, List.setIfInBounds_toArray, List.set_cons_zero, List.set_cons_succ])
  refine wpAnyH_ready (rs := [10]) (by kernel_rfl) (by simp) ?_
  refine AllReadyH.cons rfl (fun K hK => ?_) AllReadyH.nil
  go_simp
  refine hK.out _ _ (hS _ (by repeat (first | with_reducible exact Below.refl _ _ | with_reducible assumption | with_reducible apply Ba | with_reducible apply Bd | with_reducible apply Bn | with_reducible apply Bg | (with_reducible refine Bs ?_ (by first | (simp; done) | (simp; omega)) _) | (with_reducible refine Bt ?_ (by assumption)) | (with_reducible refine Bt ?_ (Gr.below (by assumption)))))) (fun hHeld => ?_); clear hK K; (try simp only [Act.put, List.getElem_toArray, List.getElem_cons_succ, List.getElem_cons_zero, List.setIfInBounds_toArray, List.set_cons_zero, List.set_cons_succ])
  (refine wpAnyH_take (i := 11) (v := ?_) rfl (by kernel_rfl) (by kernel_rfl) (by kernel_rfl) (fun _ _ _ h => h) (Or.inl ⟨by rfl, ?rt⟩) (by assumption) ?_; case rt => (intro w hSw; (try dsimp only at hSw); go_simp; (try with_reducible rfl))); (try simp only [Act.put, List.getElem_toArray, List.getElem_cons_succ, List.getElem_cons_zero, List.setIfInBounds_toArray, List.set_cons_zero, List.set_cons_succ])
  refine wpAnyH_done (by kernel_rfl) ?_ _
  obtain ⟨hb, hhb⟩ : ∃ hb, hb = w.heap.size := ⟨_, rfl⟩
  obtain ⟨W1, hW1⟩ : ∃ W1, W1 = ((w.alloc (.cells #[.int .i64 x, .int .i64 y] 42)).alloc (.cells #[.int .i64 x1, .int .i64 x2, .int .i64 x3, .int .i64 x4] 45)).drew := ⟨_, rfl⟩
  have B1 : RowKit.Below w.heap.size w W1 := by rw [hW1]; exact Bd (Ba (Ba (Below.refl _ w) _) _)
  obtain ⟨k1, k2⟩ := three_blk (w := w) (o1 := .cells #[.int .i64 x, .int .i64 y] 42) (o2 := .cells #[.int .i64 x1, .int .i64 x2, .int .i64 x3, .int .i64 x4] 45) (w3 := W1) (by rw [hW1]; exact Bd (Below.refl _ _))
  have hs1 : W1.heap.size = w.heap.size + 2 := by rw [hW1]; simp
  rw [← hW1]
  rw [← hhb] at k1 k2 ⊢
  have HHB := Lib.hid hhb
  have HB1 := Lib.hid B1
  have K1 := Lib.hid k1
  obtain ⟨t1, t2, t3, t4⟩ := cells4 k2
  have hl1 := cell_lt t1
  have hz1 : hb < W1.heap.size := by omega
  clear hS hHeld hW1 B1 k1 k2 hhb hpl hml
  have OC := Lib.hid (qOf_ok x1 x2 x3 x4 W1 hR hW)
  obtain ⟨d, c2, c3, hd8, hce, hx0, hx1, hy0, hy1⟩ := cell_fine hR hW
  have HWB := Lib.hid (show wayB (x1, x2, x3, x4) = wayC d c2 c3 by unfold wayB; rw [hce]; rfl)
  rw [hce] at OC
  clear hce hR hW
  go_wp2_with fail
  refine OC.out.mono ?_
  rintro e w2 ⟨rfl, hb2⟩
  have B2 := Lib.hid (Bt HB1.out hb2)
  have hs2 := hb2.size
  have K2 := Lib.hid (blk_below K1.out hb2)
  clear hb2 t1 t2 t3 t4 OC
  go_wp2_with fail
  obtain ⟨bc, hbc⟩ : ∃ bc, bc = w2.heap.size := ⟨_, rfl⟩
  obtain ⟨W3, hW3⟩ : ∃ W3, W3 = w2.alloc (.cells #[.int .i64 d, .int .i64 c2, .int .i64 c3] 87) := ⟨_, rfl⟩
  have k3 := heap_alloc_new w2 (.cells #[.int .i64 d, .int .i64 c2, .int .i64 c3] 87)
  have hs3 : W3.heap.size = w2.heap.size + 1 := by rw [hW3]; simp
  have B3 : RowKit.Below w.heap.size w W3 := by rw [hW3]; exact Ba B2.out _
  have k1 : W3.heap[hb]? = some (.cells #[.int .i64 x, .int .i64 y] 42 (0, 0)) := by rw [hW3]; exact blk_below K2.out (Ba (Below.refl _ _) _)
  rw [← hW3] at k3 ⊢
  rw [← hbc] at k3 ⊢
  have I3 := (HI.out.map.below B3)
  have hpt3 := Bc B3 (hM _ HI.out.inT) HI.out.cells.1
  obtain ⟨w4, hrun, hm4, hg4⟩ := (I3.below (Bd (Below.refl _ W3))).del mptB (x, y) hx 0
  rw [hbf] at hm4
  have HM4 := Lib.hid ((hm4.cnt (show (if (some (x1, x2, x3, x4) : Option Bx4).isSome then B.length - 1 else B.length) = (woB B (x, y)).length by
    have := woB_one ho hm
    simp
    omega)).congr (g := boxF (woB B (x, y))) (fun z => by
      exact boxF_wo ho (x, y) z))
  have T4 : Tch (fun b => b = mb) W3 w4 := ⟨hg4.os, hg4.tape, hg4.output, hg4.size, fun k hk hn => hg4.block k hk (fun e => hn (by cases e; rfl))⟩
  unfold mH at hrun
  dsimp only at hrun
  have hmbl := hM _ HI.out.inM
  have hptl := hM _ HI.out.inT
  have q1 : W3.cell? ⟨hb, 0, none⟩ = some (.int .i64 x) ∧ W3.cell? ⟨hb, 1, none⟩ = some (.int .i64 y) := ⟨by rw [blk_cell k1]; rfl, by rw [blk_cell k1]; rfl⟩
  have K4 := Lib.hid (T4.blk k1 (by have := HHB.out; omega))
  have K5 := Lib.hid (T4.blk k3 (by have := HHB.out; omega))
  have q2_ : w4.cell? ⟨hb, 0, none⟩ = some (.int .i64 x) ∧ w4.cell? ⟨hb, 1, none⟩ = some (.int .i64 y) := ⟨by rw [blk_cell K4.out]; rfl, by rw [blk_cell K4.out]; rfl⟩
  have KPT := Lib.hid (T4.blk (blk_below HI.out.blk B3) HI.out.ne)
  have hpt4 : w4.cell? ⟨pt, 0, none⟩ = some (.map (some mb)) := by rw [blk_cell KPT.out]; rfl
  have HBC := Lib.hid hbc
  have hs3' : W3.heap.size = bc + 1 := by omega
  clear hbc hW3 hs3
  refine wp_region_held_drew (S := fun W => (W.cell? ⟨hb, 0, none⟩ = some (.int .i64 x) ∧ W.cell? ⟨hb, 1, none⟩ = some (.int .i64 y)) ∧ W.cell? ⟨pt, 0, none⟩ = some (.map (some mb))) (by kernel_rfl) ⟨q1, hpt3⟩ (fun hHeld => ?_)
  (refine wpAnyH_take (i := 0) (v := ?_) rfl (by kernel_rfl) (by kernel_rfl) (by kernel_rfl) (fun _ _ _ h => h) (Or.inl ⟨by rfl, ?rt⟩) (by assumption) ?_; case rt => (intro w hSw; (try dsimp only at hSw); go_simp; (try with_reducible rfl))); (try simp only [Act.put, List.getElem_toArray, List.getElem_cons_succ, List.getElem_cons_zero, List.setIfInBounds_toArray, List.set_cons_zero, List.set_cons_succ])
  (refine wpAnyH_take (i := 1) (v := ?_) rfl (by kernel_rfl) (by kernel_rfl) (by kernel_rfl) (fun _ _ _ h => h) (Or.inl ⟨by rfl, ?rt⟩) (by assumption) ?_; case rt => (intro w hSw; (try dsimp only at hSw); go_simp; (try with_reducible rfl))); (try simp only [Act.put, List.getElem_toArray, List.getElem_cons_succ, List.getElem_cons_zero, List.setIfInBounds_toArray, List.set_cons_zero, List.set_cons_succ])
  (refine wpAnyH_take (i := 2) (v := ?_) rfl (by kernel_rfl) (by kernel_rfl) (by kernel_rfl) (fun _ _ _ h => h) (Or.inl ⟨by rfl, ?rt⟩) (by assumption) ?_; case rt => (intro w hSw; (try dsimp only at hSw); go_simp; (try with_reducible rfl))); (try simp only [Act.put, List.getElem_toArray, List.getElem_cons_succ, List.getElem_cons_zero, List.setIfInBounds_toArray, List.set_cons_zero, List.set_cons_succ])
  (refine wpAnyH_take (i := 3) (v := ?_) rfl (by kernel_rfl) (by kernel_rfl) (by kernel_rfl) (fun _ _ _ h => h) (Or.inl ⟨by rfl, ?rt⟩) (by assumption) ?_; case rt => (intro w hSw; (try dsimp only at hSw); go_simp; (try with_reducible rfl))); (try simp only [Act.put, List.getElem_toArray, List.getElem_cons_succ, List.getElem_cons_zero, List.setIfInBounds_toArray, List.set_cons_zero, List.set_cons_succ])
  (refine wpAnyH_take (i := 4) (v := ?_) rfl (by kernel_rfl) (by kernel_rfl) (by kernel_rfl) (fun _ _ _ h => h) (Or.inl ⟨by rfl, ?rt⟩) (by assumption) ?_; case rt => (intro w hSw; (try dsimp only at hSw); go_simp; (try with_reducible rfl))); (try simp only [Act.put, List.getElem_toArray, List.getElem_cons_succ, List.getElem_cons_zero, List.setIfInBounds_toArray, List.set_cons_zero, List.set_cons_succ])
  refine wpAnyH_ready (rs := [5]) (by kernel_rfl) (by simp) ?_
  refine AllReadyH.cons rfl (fun K hK => ?_) AllReadyH.nil
  go_simp
  refine hK.out _ _ ⟨q2_, hpt4⟩ (fun hHeld => ?_); clear hK K; (try simp only [Act.put, List.getElem_toArray, List.getElem_cons_succ, List.getElem_cons_zero, List.setIfInBounds_toArray, List.set_cons_zero, List.set_cons_succ])
  refine wpAnyH_done (by kernel_rfl) ?_ _
  have TT := Lib.hid (((Tch.of B3 : Tch M w W3).more (T4.mono fun b e => by rw [e]; exact HI.out.inM)))
  have B3' := Lib.hid B3
  have T4' := Lib.hid T4
  have hs4 := T4.size
  clear hHeld hrun hm4 hg4 T4 B3 I3 hpt3 q1 k1 k3 hbf
  obtain ⟨q1, q2, q3_, q4⟩ := q
  obtain ⟨p, cap, rfl, hcap, hcm⟩ := HI.out.nd.val
  have WC := Lib.hid (fun W => way_call d c2 c3 W hd8 hx0 hx1 hy0 hy1)
  have hmf : ∀ (fn : Fn) (first cap : Array Value) (w : World), (Instr.makeFunc fn first cap).run Tryz.prog w = .ok (.func fn first cap) w := fun _ _ _ _ => rfl
  have hND := (HI.out.nd.below B3'.out).kept T4'.out (fun b hb => hb.2.2)
  have HND := Lib.hid hND
  have hmem : ((x, y), (x1, x2, x3, x4)) ∈ R (wayC d c2 c3) := (HI.out.rows.mem _ _).2 ⟨hm, HWB.out⟩
  have hdo : Does w4 72 #[.pointer (some ⟨hb, 0, none⟩)] (R (wayC d c2 c3)) (delL (R (wayC d c2 c3)) (x, y)) := fun W rv hbW hv =>
    drop1_call _ x y hb rv W hv (HI.out.rows.rise _) (Nat.le_trans (nodup_sub_len (HI.out.rows.nodup _) (fun z hz => ((HI.out.rows.mem _ z).1 hz).1)) (by omega)) (drop_placeL (HI.out.rows.rise _) hmem).1 ⟨Bc hbW (cell_lt q2_.1) q2_.1, Bc hbW (cell_lt q2_.2) q2_.2⟩
  have hen : ∀ args w, (callFunc 72 args).run Tryz.prog w = .ok (.enter 72 args) w := enters_of Tryz.func72 (by kernel_rfl) rfl
  have CH := Lib.hid (changed_call hdo hen 8)
  have HDO := Lib.hid hdo
  obtain ⟨c1, cc1, cc2, cc3, cc4, cc5⟩ := cells6 KPT.out
  obtain ⟨⟨e1, e2, e3⟩, -⟩ := cells3 K5.out
  clear hdo hND hmem hcap hcm
  have hbcl := cell_lt e1
  have hpcl := cell_lt c1
  have hhbl := cell_lt q2_.1
  go_wp2_with fail
  refine wp_region_held_drew (S := fun W => Tch (fun b => b = pt) w4 W ∧ (W.cell? ⟨bc, 0, none⟩ = some (.int .i64 d) ∧ W.cell? ⟨bc, 1, none⟩ = some (.int .i64 c2) ∧ W.cell? ⟨bc, 2, none⟩ = some (.int .i64 c3))) (by kernel_rfl) ⟨(Tch.refl _ _).drew, e1, e2, e3⟩ (fun hHeld => ?_)
  (refine wpAnyH_take (i := 0) (v := ?_) rfl (by kernel_rfl) (by kernel_rfl) (by kernel_rfl) (fun _ _ _ h => h) (Or.inl ⟨by rfl, ?rt⟩) (by assumption) ?_; case rt => (intro w hSw; (try dsimp only at hSw); go_simp; (try with_reducible rfl))); (try simp only [Act.put, List.getElem_toArray, List.getElem_cons_succ, List.getElem_cons_zero, List.setIfInBounds_toArray, List.set_cons_zero, List.set_cons_succ])
  (refine wpAnyH_take (i := 1) (v := ?_) rfl (by kernel_rfl) (by kernel_rfl) (by kernel_rfl) (fun _ _ _ h => h) (Or.inl ⟨by rfl, ?rt⟩) (by assumption) ?_; case rt => (intro w hSw; (try dsimp only at hSw); go_simp; (try with_reducible rfl))); (try simp only [Act.put, List.getElem_toArray, List.getElem_cons_succ, List.getElem_cons_zero, List.setIfInBounds_toArray, List.set_cons_zero, List.set_cons_succ])
  (refine wpAnyH_take (i := 2) (v := ?_) rfl (by kernel_rfl) (by kernel_rfl) (by kernel_rfl) (fun _ _ _ h => h) (Or.inl ⟨by rfl, ?rt⟩) (by assumption) ?_; case rt => (intro w hSw; (try dsimp only at hSw); go_simp; (try with_reducible rfl))); (try simp only [Act.put, List.getElem_toArray, List.getElem_cons_succ, List.getElem_cons_zero, List.setIfInBounds_toArray, List.set_cons_zero, List.set_cons_succ])
  (refine wpAnyH_take (i := 3) (v := ?_) rfl (by kernel_rfl) (by kernel_rfl) (by kernel_rfl) (fun _ _ _ h => h) (Or.inl ⟨by rfl, ?rt⟩) (by assumption) ?_; case rt => (intro w hSw; (try dsimp only at hSw); go_simp; (try with_reducible rfl))); (try simp only [Act.put, List.getElem_toArray, List.getElem_cons_succ, List.getElem_cons_zero, List.setIfInBounds_toArray, List.set_cons_zero, List.set_cons_succ])
  (refine wpAnyH_take (i := 5) (v := ?_) rfl (by kernel_rfl) (by kernel_rfl) (by kernel_rfl) (fun _ _ _ h => h) (Or.inl ⟨by rfl, ?rt⟩) (by assumption) ?_; case rt => (intro w hSw; (try dsimp only at hSw); go_simp; (try with_reducible rfl))); (try simp only [Act.put, List.getElem_toArray, List.getElem_cons_succ, List.getElem_cons_zero, List.setIfInBounds_toArray, List.set_cons_zero, List.set_cons_succ])
  (refine wpAnyH_take (i := 7) (v := ?_) rfl (by kernel_rfl) (by kernel_rfl) (by kernel_rfl) (fun _ _ _ h => h) (Or.inl ⟨by rfl, ?rt⟩) (by assumption) ?_; case rt => (intro w hSw; (try dsimp only at hSw); go_simp; (try with_reducible rfl))); (try simp only [Act.put, List.getElem_toArray, List.getElem_cons_succ, List.getElem_cons_zero, List.setIfInBounds_toArray, List.set_cons_zero, List.set_cons_succ])
  refine wpAnyH_ready (rs := [4, 6]) (by kernel_rfl) (by simp) ?_
  refine AllReadyH.cons rfl (fun K hK => ?_) (AllReadyH.cons rfl (fun K hK => ?_) AllReadyH.nil)
  case' refine_1 =>
    go_simp
    refine hK.out _ _ hHeld (fun hHeld => ?_)
    clear hK K
    (try simp only [Act.put, List.getElem_toArray, List.getElem_cons_succ, List.getElem_cons_zero, List.setIfInBounds_toArray, List.set_cons_zero, List.set_cons_succ])
    (refine wpAnyH_ready (rs := [6]) (by kernel_rfl) (by simp) ?_; refine AllReadyH.cons rfl (fun K hK => ?_) AllReadyH.nil; go_simp)
    refine (WC.out _).mono ?_
    rintro e w5 ⟨vw, rfl, hsw, hb5⟩
    refine hK.out _ _ ⟨hHeld.1.bel hb5, Bc hb5 (cell_lt hHeld.2.1) hHeld.2.1, Bc hb5 (cell_lt hHeld.2.2.1) hHeld.2.2.1, Bc hb5 (cell_lt hHeld.2.2.2) hHeld.2.2.2⟩ (fun hHeld => ?_)
    clear hK K
    (try simp only [Act.put, List.getElem_toArray, List.getElem_cons_succ, List.getElem_cons_zero, List.setIfInBounds_toArray, List.set_cons_zero, List.set_cons_succ])
  case' refine_2 =>
    go_simp
    refine (WC.out _).mono ?_
    rintro e w5 ⟨vw, rfl, hsw, hb5⟩
    refine hK.out _ _ ⟨hHeld.1.bel hb5, Bc hb5 (cell_lt hHeld.2.1) hHeld.2.1, Bc hb5 (cell_lt hHeld.2.2.1) hHeld.2.2.1, Bc hb5 (cell_lt hHeld.2.2.2) hHeld.2.2.2⟩ (fun hHeld => ?_)
    clear hK K
    (try simp only [Act.put, List.getElem_toArray, List.getElem_cons_succ, List.getElem_cons_zero, List.setIfInBounds_toArray, List.set_cons_zero, List.set_cons_succ])
    replace c1 := Bc hb5 hpcl c1
    replace cc1 := Bc hb5 hpcl cc1
    replace cc2 := Bc hb5 hpcl cc2
    replace cc3 := Bc hb5 hpcl cc3
    replace cc4 := Bc hb5 hpcl cc4
    replace cc5 := Bc hb5 hpcl cc5
    (refine wpAnyH_ready (rs := [4]) (by kernel_rfl) (by simp) ?_; refine AllReadyH.cons rfl (fun K hK => ?_) AllReadyH.nil; go_simp)
    refine hK.out _ _ hHeld (fun hHeld => ?_)
    clear hK K
    (try simp only [Act.put, List.getElem_toArray, List.getElem_cons_succ, List.getElem_cons_zero, List.setIfInBounds_toArray, List.set_cons_zero, List.set_cons_succ])
  all_goals
    have hb5' : RowKit.Below w4.heap.size w4 w5 := Bt (Bd (Below.refl _ w4)) hb5
    have CC := Lib.hid (CH.out (wayC d c2 c3) w5 (Nds M pt mb) R (.agg #[.slice p (R []).length cap, .pointer (aV q1), .pointer (aV q2), .pointer (aV q3_), .pointer (aV q4)]) vw (fun b e => by have := hM b e.1; have := hb5'.size; have := B3'.out.size; omega) hb5' ⟨_, (q1, q2, q3_, q4), rfl, HND.out.below hb5'⟩ HI.out.rows.dig (wayC_lt _ _ _) (by rw [wayC_len]; exact hd8) rfl hsw)
    have HB5 := Lib.hid hb5'
    have hs5 := hb5'.size
    clear hb5 hb5' hsw
    (refine wpAnyH_ready (rs := [8]) (by kernel_rfl) (by simp) ?_; refine AllReadyH.cons rfl (fun K hK => ?_) AllReadyH.nil; go_simp)
    refine CC.out.mono ?_
    rintro e w6 ⟨v6, rfl, ⟨rv6, q6, rfl, hn6⟩, hb6⟩
    refine hK.out _ _ ⟨hHeld.1.bel hb6, Bc hb6 (cell_lt hHeld.2.1) hHeld.2.1, Bc hb6 (cell_lt hHeld.2.2.1) hHeld.2.2.1, Bc hb6 (cell_lt hHeld.2.2.2) hHeld.2.2.2⟩ (fun hHeld => ?_)
    clear hK K
    (try simp only [Act.put, List.getElem_toArray, List.getElem_cons_succ, List.getElem_cons_zero, List.setIfInBounds_toArray, List.set_cons_zero, List.set_cons_succ])
    (refine wpAnyH_take (i := 9) (v := ?_) rfl (by kernel_rfl) (by kernel_rfl) (by kernel_rfl) (fun _ _ _ h => h) (Or.inl ⟨by rfl, ?rt⟩) (by assumption) ?_; case rt => (intro w hSw; (try dsimp only at hSw); go_simp; (try with_reducible rfl))); (try simp only [Act.put, List.getElem_toArray, List.getElem_cons_succ, List.getElem_cons_zero, List.setIfInBounds_toArray, List.set_cons_zero, List.set_cons_succ])
    (refine wpAnyH_take (i := 10) (v := ?_) rfl (by kernel_rfl) (by kernel_rfl) (by kernel_rfl) (fun _ _ _ h => h) (Or.inl ⟨by rfl, ?rt⟩) (by assumption) ?_; case rt => (intro w hSw; (try dsimp only at hSw); go_simp; (try with_reducible rfl))); (try simp only [Act.put, List.getElem_toArray, List.getElem_cons_succ, List.getElem_cons_zero, List.setIfInBounds_toArray, List.set_cons_zero, List.set_cons_succ])
    have HB6 := Lib.hid (Bt HB5.out hb6)
    have hs6 := hb6.size
    have kpt := blk_below KPT.out HB6.out
    have HN6 := Lib.hid hn6
    obtain ⟨p6, cap6, hv6, hw6, _⟩ := hn6.val
    generalize (setR R (wayC d c2 c3) (delL (R (wayC d c2 c3)) (x, y)) []).length = n6 at hv6 hw6
    subst hv6
    obtain ⟨a1, a2, a3, a4⟩ := q6
    unfold ndV ndC
    dsimp only
    obtain ⟨n0, n1, n2, n3, n4, n5⟩ := cells6 kpt
    have f1 := frz0 kpt 1
    have f2 := frz0 kpt 2
    have f3 := frz0 kpt 3
    have f4 := frz0 kpt 4
    have f5 := frz0 kpt 5
    have hnb : bc ≠ pt := by have := HHB.out; have := HBC.out; omega
    have HH6 := Lib.hid hHeld
    have HKP := Lib.hid kpt
    clear hHeld kpt hb6 hn6
    (refine wpAnyH_ready (rs := [11]) (by kernel_rfl) (by simp) ?_; refine AllReadyH.cons rfl (fun K hK => ?_) AllReadyH.nil; go_simp)
    refine hK.out _ _ ⟨tch51 (M := fun b => b = pt) (p := pt) HH6.out.1 rfl _ _ _ _ _, by simp [World.cell?_setCell_other, hnb, HH6.out.2.1, HH6.out.2.2.1, HH6.out.2.2.2]⟩ (fun hHeld => ?_)
    clear hK K
    (try simp only [Act.put, List.getElem_toArray, List.getElem_cons_succ, List.getElem_cons_zero, List.setIfInBounds_toArray, List.set_cons_zero, List.set_cons_succ])
    refine wpAnyH_done (by kernel_rfl) ?_ _
    have K7 := set5 (b1 := .slice p6 n6 cap6) (b2 := .pointer (aV a1)) (b3 := .pointer (aV a2)) (b4 := .pointer (aV a3)) (b5 := .pointer (aV a4)) HKP.out
    have T7 := tch51 (M := fun b => b = pt) (p := pt) (Tch.refl _ w6) rfl (.slice p6 n6 cap6) (.pointer (aV a1)) (.pointer (aV a2)) (.pointer (aV a3)) (.pointer (aV a4))
    have HK7 := Lib.hid K7
    have HT7 := Lib.hid T7
    clear hHeld K7 T7 n0 n1 n2 n3 n4 n5 f1 f2 f3 f4 f5 hmf
    generalize (((((w6.setCell ⟨pt, 1, none⟩ (.slice p6 n6 cap6)).setCell ⟨pt, 2, none⟩ (.pointer (aV a1))).setCell ⟨pt, 3, none⟩ (.pointer (aV a2))).setCell ⟨pt, 4, none⟩ (.pointer (aV a3))).setCell ⟨pt, 5, none⟩ (.pointer (aV a4))) = w7 at *
    go_wp2
    go_ret
    have hT : Tch M w w7 := ((TT.out.bel HB6.out)).more (HT7.out.mono fun b e => by rw [e]; exact HI.out.inT)
    refine ⟨rfl, ⟨mb, setR R (wayC d c2 c3) (delL (R (wayC d c2 c3)) (x, y)), .slice p6 n6 cap6, (a1, a2, a3, a4), ?_⟩, hT⟩
    exact { inT := .inl HI.out.inT, inM := .inl HI.out.inM, ne := HI.out.ne, blk := HK7.out, map := ((HM4.out.below HB6.out).kept HT7.out (fun e => HI.out.ne e.symm)), nd := NdV.mono (fun b e => by
              rcases e with e | e
              · exact ⟨.inl e.1, e.2⟩
              · have := B3'.out.size
                exact ⟨.inr ⟨by omega, Nat.lt_of_lt_of_le e.2 HT7.out.size⟩, by omega, by omega⟩) (HN6.out.kept HT7.out (fun b e => by
              rcases e with e | e
              · exact e.2.1
              · omega)), rows := by
              have := HI.out.rows.drop ho hm
              rwa [HWB.out] at this
            ok := fun z hz => HI.out.ok z (mem_woB.1 hz).1, once := once_wo ho _, hds := fun z hz => HI.out.hds z (mem_woB.1 hz).1 }
end
end Go.Proofs.YtahichjiphjapaaGreatDoor
