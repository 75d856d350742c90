/-
  Package axis: a sweep's Drop, Meet.
-/
import Derived.Test.YtbodefigeiaodaaDoorSw11
namespace Go.Proofs.YtbodefigeiaodaaDoor
set_option linter.unusedSimpArgs false
set_option linter.unusedVariables false
open Go.RowKit Go.Sort Go.Lib Go.Shelf

theorem woB_none {B : List Bxd} {h : Hd} (hn : spF (B.map xsp) h = none) : woB B h = B := List.filter_eq_self.2 fun b hb => by
  have : b.1 ≠ h := spF_no hn (xsp b) (List.mem_map.2 ⟨b, hb, rfl⟩)
  simpa using this
section
variable {ps : Nat} {B : List Bxd} {M : Nat → Prop} {w : World}
set_option maxHeartbeats 2000000 in
set_option maxRecDepth 100000 in
theorem dropS_no (hp : SwAt w M ps B) (x y : Int) (hx : HdOk (x, y)) (hn : spF (B.map xsp) (x, y) = none) (t : TypeId) (u : Value) (hE : w.cell? ⟨2, 0, none⟩ = some (.iface t u)) :
    Calls Tryd.prog 28 #[.pointer (some ⟨ps, 0, none⟩), .agg #[.int .i64 x, .int .i64 y]] w fun e w' => e = .returned (.iface t u) ∧ RowKit.Below w.heap.size w w' := by
  obtain ⟨px, py, Mx, My, ⟨h1, h2⟩, h3, h4, h5, h6⟩ := hp
  have hb := Bd (Ba (Below.refl _ w) (.cells #[.int .i64 x, .int .i64 y] 28))
  have DX := Lib.hid (drop_none (h5.below hb) x y hx hn t u (Bc hb (cell_lt hE) hE))
  obtain ⟨c0, c1, _⟩ := two_cells (blk_below h1 hb)
  obtain ⟨d0, d1, _⟩ := two_cells (show (w.alloc (.cells #[.int .i64 x, .int .i64 y] 28)).drew.heap[w.heap.size]? = _ from heap_alloc_new w _)
  have l0 := cell_lt c0
  have l1 := cell_lt d0
  unfold psP at c0 c1
  clear h1 h2 h3 h4 h5 h6 hE hn hb
  go_enter Tryd.func28, Tryd.ntmps28
  go_wp2_with fail
  refine wp_region_held_drew (S := fun W => (W.cell? ⟨ps, 0, none⟩ = some (.pointer (some ⟨px, 0, none⟩))) ∧ W.cell? ⟨w.heap.size, 0, none⟩ = some (.int .i64 x) ∧ W.cell? ⟨w.heap.size, 1, none⟩ = some (.int .i64 y)) (by kernel_rfl) ⟨c0, d0, d1⟩ (fun hHeld => ?_)
  (refine wpAnyH_take (i := 0) (v := ?_) rfl (by kernel_rfl) (by kernel_rfl) (by kernel_rfl) (fun _ _ _ h => h) (Or.inl ⟨by rfl, ?rt⟩) (by assumption) ?_; case rt => (intro w hSw; (try dsimp only at hSw); go_simp; (try with_reducible rfl))); (try simp only [Act.put, List.getElem_toArray, List.getElem_cons_succ, List.getElem_cons_zero, List.setIfInBounds_toArray, List.set_cons_zero, List.set_cons_succ])
  (refine wpAnyH_take (i := 1) (v := ?_) rfl (by kernel_rfl) (by kernel_rfl) (by kernel_rfl) (fun _ _ _ h => h) (Or.inl ⟨by rfl, ?rt⟩) (by assumption) ?_; case rt => (intro w hSw; (try dsimp only at hSw); go_simp; (try with_reducible rfl))); (try simp only [Act.put, List.getElem_toArray, List.getElem_cons_succ, List.getElem_cons_zero, List.setIfInBounds_toArray, List.set_cons_zero, List.set_cons_succ])
  (refine wpAnyH_take (i := 2) (v := ?_) rfl (by kernel_rfl) (by kernel_rfl) (by kernel_rfl) (fun _ _ _ h => h) (Or.inl ⟨by rfl, ?rt⟩) (by assumption) ?_; case rt => (intro w hSw; (try dsimp only at hSw); go_simp; (try with_reducible rfl))); (try simp only [Act.put, List.getElem_toArray, List.getElem_cons_succ, List.getElem_cons_zero, List.setIfInBounds_toArray, List.set_cons_zero, List.set_cons_succ])
  (refine wpAnyH_take (i := 3) (v := ?_) rfl (by kernel_rfl) (by kernel_rfl) (by kernel_rfl) (fun _ _ _ h => h) (Or.inl ⟨by rfl, ?rt⟩) (by assumption) ?_; case rt => (intro w hSw; (try dsimp only at hSw); go_simp; (try with_reducible rfl))); (try simp only [Act.put, List.getElem_toArray, List.getElem_cons_succ, List.getElem_cons_zero, List.setIfInBounds_toArray, List.set_cons_zero, List.set_cons_succ])
  (refine wpAnyH_take (i := 4) (v := ?_) rfl (by kernel_rfl) (by kernel_rfl) (by kernel_rfl) (fun _ _ _ h => h) (Or.inl ⟨by rfl, ?rt⟩) (by assumption) ?_; case rt => (intro w hSw; (try dsimp only at hSw); go_simp; (try with_reducible rfl))); (try simp only [Act.put, List.getElem_toArray, List.getElem_cons_succ, List.getElem_cons_zero, List.setIfInBounds_toArray, List.set_cons_zero, List.set_cons_succ])
  refine wpAnyH_ready (rs := [5]) (by kernel_rfl) (by simp) ?_
  refine AllReadyH.cons rfl (fun K hK => ?_) AllReadyH.nil
  go_simp
  refine DX.out.mono ?_
  rintro e w2 ⟨rfl, hb2⟩
  refine hK.out _ _ ⟨Bc hb2 l0 c0, Bc hb2 l1 d0, Bc hb2 l1 d1⟩ (fun hHeld => ?_); clear hK K; (try simp only [Act.put, List.getElem_toArray, List.getElem_cons_succ, List.getElem_cons_zero, List.setIfInBounds_toArray, List.set_cons_zero, List.set_cons_succ])
  (refine wpAnyH_take (i := 6) (v := ?_) rfl (by kernel_rfl) (by kernel_rfl) (by kernel_rfl) (fun _ _ _ h => h) (Or.inl ⟨by rfl, ?rt⟩) (by assumption) ?_; case rt => (intro w hSw; (try dsimp only at hSw); go_simp; (try with_reducible rfl))); (try simp only [Act.put, List.getElem_toArray, List.getElem_cons_succ, List.getElem_cons_zero, List.setIfInBounds_toArray, List.set_cons_zero, List.set_cons_succ])
  refine wpAnyH_done (by kernel_rfl) ?_ _
  clear hHeld c0 d0 d1 c1
  go_wp2
  go_ret
  exact ⟨rfl, Bt (Bd (Ba (Below.refl _ w) _)) hb2⟩
set_option maxHeartbeats 2000000 in
set_option maxRecDepth 100000 in
theorem dropS_yes (hp : SwAt w M ps B) (x y : Int) (hx : HdOk (x, y)) {a b c d : Int} (hm : ((x, y), (a, b, c, d)) ∈ B) (hlen : B.length ≤ 200) :
    Calls Tryd.prog 28 #[.pointer (some ⟨ps, 0, none⟩), .agg #[.int .i64 x, .int .i64 y]] w fun e w' => e = .returned .nilIface ∧ SwAt w' (New M w w') ps (woB B (x, y)) ∧ Tch M w w' := by
  obtain ⟨px, py, Mx, My, ⟨h1, h2⟩, h3, h4, h5, h6⟩ := hp
  have hb1 := Ba (Below.refl _ w) (.cells #[.int .i64 x, .int .i64 y] 28)
  have hb := Bd hb1
  have hl1 : (B.map xsp).length ≤ 200 := by rw [List.length_map]; exact hlen
  have hl2 : (B.map ysp).length ≤ 200 := by rw [List.length_map]; exact hlen
  have DX := Lib.hid (drop_some (h5.below hb) x y a c hx (List.mem_map.2 ⟨_, hm, rfl⟩) hl1)
  have hk0 := blk_below h1 hb
  have hk1 : (w.alloc (.cells #[.int .i64 x, .int .i64 y] 28)).drew.heap[w.heap.size]? = some (.cells #[.int .i64 x, .int .i64 y] 28 (0, 0)) := heap_alloc_new w _
  obtain ⟨c0, c1, _⟩ := two_cells hk0
  obtain ⟨d0, d1, _⟩ := two_cells hk1
  have l0 := cell_lt c0
  have l1 := cell_lt d0
  unfold psP at c0 c1
  have HB1 := Lib.hid hb
  have H34 := Lib.hid (And.intro h3 h4)
  have HY := Lib.hid h6
  have HP := Lib.hid h2
  have HM := Lib.hid hm
  have KK := Lib.hid (And.intro hk0 hk1)
  clear h1 h2 h3 h4 h5 h6 hb hb1 hk0 hk1 hm
  go_enter Tryd.func28, Tryd.ntmps28
  go_wp2_with fail
  refine wp_region_held_drew (S := fun W => (W.cell? ⟨ps, 0, none⟩ = some (.pointer (some ⟨px, 0, none⟩)) ∧ W.cell? ⟨ps, 1, none⟩ = some (.pointer (some ⟨py, 0, none⟩))) ∧ W.cell? ⟨w.heap.size, 0, none⟩ = some (.int .i64 x) ∧ W.cell? ⟨w.heap.size, 1, none⟩ = some (.int .i64 y)) (by kernel_rfl) ⟨⟨c0, c1⟩, d0, d1⟩ (fun hHeld => ?_)
  (refine wpAnyH_take (i := 0) (v := ?_) rfl (by kernel_rfl) (by kernel_rfl) (by kernel_rfl) (fun _ _ _ h => h) (Or.inl ⟨by rfl, ?rt⟩) (by assumption) ?_; case rt => (intro w hSw; (try dsimp only at hSw); go_simp; (try with_reducible rfl))); (try simp only [Act.put, List.getElem_toArray, List.getElem_cons_succ, List.getElem_cons_zero, List.setIfInBounds_toArray, List.set_cons_zero, List.set_cons_succ])
  (refine wpAnyH_take (i := 1) (v := ?_) rfl (by kernel_rfl) (by kernel_rfl) (by kernel_rfl) (fun _ _ _ h => h) (Or.inl ⟨by rfl, ?rt⟩) (by assumption) ?_; case rt => (intro w hSw; (try dsimp only at hSw); go_simp; (try with_reducible rfl))); (try simp only [Act.put, List.getElem_toArray, List.getElem_cons_succ, List.getElem_cons_zero, List.setIfInBounds_toArray, List.set_cons_zero, List.set_cons_succ])
  (refine wpAnyH_take (i := 2) (v := ?_) rfl (by kernel_rfl) (by kernel_rfl) (by kernel_rfl) (fun _ _ _ h => h) (Or.inl ⟨by rfl, ?rt⟩) (by assumption) ?_; case rt => (intro w hSw; (try dsimp only at hSw); go_simp; (try with_reducible rfl))); (try simp only [Act.put, List.getElem_toArray, List.getElem_cons_succ, List.getElem_cons_zero, List.setIfInBounds_toArray, List.set_cons_zero, List.set_cons_succ])
  (refine wpAnyH_take (i := 3) (v := ?_) rfl (by kernel_rfl) (by kernel_rfl) (by kernel_rfl) (fun _ _ _ h => h) (Or.inl ⟨by rfl, ?rt⟩) (by assumption) ?_; case rt => (intro w hSw; (try dsimp only at hSw); go_simp; (try with_reducible rfl))); (try simp only [Act.put, List.getElem_toArray, List.getElem_cons_succ, List.getElem_cons_zero, List.setIfInBounds_toArray, List.set_cons_zero, List.set_cons_succ])
  (refine wpAnyH_take (i := 4) (v := ?_) rfl (by kernel_rfl) (by kernel_rfl) (by kernel_rfl) (fun _ _ _ h => h) (Or.inl ⟨by rfl, ?rt⟩) (by assumption) ?_; case rt => (intro w hSw; (try dsimp only at hSw); go_simp; (try with_reducible rfl))); (try simp only [Act.put, List.getElem_toArray, List.getElem_cons_succ, List.getElem_cons_zero, List.setIfInBounds_toArray, List.set_cons_zero, List.set_cons_succ])
  refine wpAnyH_ready (rs := [5]) (by kernel_rfl) (by simp) ?_
  refine AllReadyH.cons rfl (fun K hK => ?_) AllReadyH.nil
  go_simp
  refine DX.out.mono ?_
  rintro e w2 ⟨rfl, hx2, tx2⟩
  have hM1 : ∀ b', Mx b' → b' ≠ ps ∧ b' < w.heap.size := fun b' e => ⟨(H34.out.1 b' e).2.1, (H34.out.1 b' e).2.2.2⟩
  have q0 := tx2.blk KK.out.1 (fun e => (hM1 _ e).1 rfl)
  have q1 := tx2.blk KK.out.2 (fun e => by have := (hM1 _ e).2; omega)
  obtain ⟨c0', c1', _⟩ := two_cells q0
  obtain ⟨d0', d1', _⟩ := two_cells q1
  unfold psP at c0' c1'
  have HX2 := Lib.hid hx2
  have TX2 := Lib.hid tx2
  have HYd := (HY.out.below HB1.out).kept tx2 (fun b' e f => (H34.out.1 b' f).2.2.1 e)
  have PY := Lib.hid (drop_some (HYd.below (Bd (Below.refl _ w2))) x y b d hx (List.mem_map.2 ⟨_, HM.out, rfl⟩) hl2)
  have K2 := Lib.hid (And.intro q0 q1)
  clear hx2 tx2 q0 q1 hM1 HYd
  refine hK.out _ _ ⟨⟨c0', c1'⟩, d0', d1'⟩ (fun hHeld => ?_); clear hK K; (try simp only [Act.put, List.getElem_toArray, List.getElem_cons_succ, List.getElem_cons_zero, List.setIfInBounds_toArray, List.set_cons_zero, List.set_cons_succ])
  (refine wpAnyH_take (i := 6) (v := ?_) rfl (by kernel_rfl) (by kernel_rfl) (by kernel_rfl) (fun _ _ _ h => h) (Or.inl ⟨by rfl, ?rt⟩) (by assumption) ?_; case rt => (intro w hSw; (try dsimp only at hSw); go_simp; (try with_reducible rfl))); (try simp only [Act.put, List.getElem_toArray, List.getElem_cons_succ, List.getElem_cons_zero, List.setIfInBounds_toArray, List.set_cons_zero, List.set_cons_succ])
  refine wpAnyH_done (by kernel_rfl) ?_ _
  clear hHeld c0 c1 d0 d1 l0 l1
  have l0 := cell_lt c0'
  have l1 := cell_lt d0'
  go_wp2_with fail
  refine wp_region_held_drew (S := fun W => (W.cell? ⟨ps, 0, none⟩ = some (.pointer (some ⟨px, 0, none⟩)) ∧ W.cell? ⟨ps, 1, none⟩ = some (.pointer (some ⟨py, 0, none⟩))) ∧ W.cell? ⟨w.heap.size, 0, none⟩ = some (.int .i64 x) ∧ W.cell? ⟨w.heap.size, 1, none⟩ = some (.int .i64 y)) (by kernel_rfl) ⟨⟨c0', c1'⟩, d0', d1'⟩ (fun hHeld => ?_)
  (refine wpAnyH_take (i := 0) (v := ?_) rfl (by kernel_rfl) (by kernel_rfl) (by kernel_rfl) (fun _ _ _ h => h) (Or.inl ⟨by rfl, ?rt⟩) (by assumption) ?_; case rt => (intro w hSw; (try dsimp only at hSw); go_simp; (try with_reducible rfl))); (try simp only [Act.put, List.getElem_toArray, List.getElem_cons_succ, List.getElem_cons_zero, List.setIfInBounds_toArray, List.set_cons_zero, List.set_cons_succ])
  (refine wpAnyH_take (i := 1) (v := ?_) rfl (by kernel_rfl) (by kernel_rfl) (by kernel_rfl) (fun _ _ _ h => h) (Or.inl ⟨by rfl, ?rt⟩) (by assumption) ?_; case rt => (intro w hSw; (try dsimp only at hSw); go_simp; (try with_reducible rfl))); (try simp only [Act.put, List.getElem_toArray, List.getElem_cons_succ, List.getElem_cons_zero, List.setIfInBounds_toArray, List.set_cons_zero, List.set_cons_succ])
  (refine wpAnyH_take (i := 2) (v := ?_) rfl (by kernel_rfl) (by kernel_rfl) (by kernel_rfl) (fun _ _ _ h => h) (Or.inl ⟨by rfl, ?rt⟩) (by assumption) ?_; case rt => (intro w hSw; (try dsimp only at hSw); go_simp; (try with_reducible rfl))); (try simp only [Act.put, List.getElem_toArray, List.getElem_cons_succ, List.getElem_cons_zero, List.setIfInBounds_toArray, List.set_cons_zero, List.set_cons_succ])
  (refine wpAnyH_take (i := 3) (v := ?_) rfl (by kernel_rfl) (by kernel_rfl) (by kernel_rfl) (fun _ _ _ h => h) (Or.inl ⟨by rfl, ?rt⟩) (by assumption) ?_; case rt => (intro w hSw; (try dsimp only at hSw); go_simp; (try with_reducible rfl))); (try simp only [Act.put, List.getElem_toArray, List.getElem_cons_succ, List.getElem_cons_zero, List.setIfInBounds_toArray, List.set_cons_zero, List.set_cons_succ])
  (refine wpAnyH_take (i := 4) (v := ?_) rfl (by kernel_rfl) (by kernel_rfl) (by kernel_rfl) (fun _ _ _ h => h) (Or.inl ⟨by rfl, ?rt⟩) (by assumption) ?_; case rt => (intro w hSw; (try dsimp only at hSw); go_simp; (try with_reducible rfl))); (try simp only [Act.put, List.getElem_toArray, List.getElem_cons_succ, List.getElem_cons_zero, List.setIfInBounds_toArray, List.set_cons_zero, List.set_cons_succ])
  refine wpAnyH_ready (rs := [5]) (by kernel_rfl) (by simp) ?_
  refine AllReadyH.cons rfl (fun K hK => ?_) AllReadyH.nil
  go_simp
  refine PY.out.mono ?_
  rintro e w3 ⟨rfl, hy3, ty3⟩
  have hM2 : ∀ b', My b' → b' ≠ ps ∧ b' < w.heap.size := fun b' e => ⟨(H34.out.2 b' e).2.1, (H34.out.2 b' e).2.2⟩
  have r0 := ty3.blk (show w2.drew.heap[ps]? = _ from K2.out.1) (fun e => (hM2 _ e).1 rfl)
  have r1 := ty3.blk (show w2.drew.heap[w.heap.size]? = _ from K2.out.2) (fun e => by have := (hM2 _ e).2; omega)
  obtain ⟨f0, f1, _⟩ := two_cells r0
  obtain ⟨g0, g1, _⟩ := two_cells r1
  unfold psP at f0 f1
  refine hK.out _ _ ⟨⟨f0, f1⟩, g0, g1⟩ (fun hHeld => ?_); clear hK K; (try simp only [Act.put, List.getElem_toArray, List.getElem_cons_succ, List.getElem_cons_zero, List.setIfInBounds_toArray, List.set_cons_zero, List.set_cons_succ])
  (refine wpAnyH_take (i := 6) (v := ?_) rfl (by kernel_rfl) (by kernel_rfl) (by kernel_rfl) (fun _ _ _ h => h) (Or.inl ⟨by rfl, ?rt⟩) (by assumption) ?_; case rt => (intro w hSw; (try dsimp only at hSw); go_simp; (try with_reducible rfl))); (try simp only [Act.put, List.getElem_toArray, List.getElem_cons_succ, List.getElem_cons_zero, List.setIfInBounds_toArray, List.set_cons_zero, List.set_cons_succ])
  refine wpAnyH_done (by kernel_rfl) ?_ _
  have HF := Lib.hid (And.intro hy3 ty3)
  clear hHeld hy3 ty3 hM2 r0 r1 f0 f1 g0 g1
  go_wp2
  go_ret
  have hsz : w.heap.size ≤ (w.alloc (.cells #[.int .i64 x, .int .i64 y] 28)).drew.heap.size := HB1.out.size
  have hsw := SwAt.x (w := (w.alloc (.cells #[.int .i64 x, .int .i64 y] 28)).drew) (B' := woB B (x, y)) KK.out.1 HP.out (fun b' e => ⟨(H34.out.1 b' e).1, (H34.out.1 b' e).2.1, (H34.out.1 b' e).2.2.1, Nat.lt_of_lt_of_le (H34.out.1 b' e).2.2.2 hsz⟩) (fun b' e => ⟨(H34.out.2 b' e).1, (H34.out.2 b' e).2.1, Nat.lt_of_lt_of_le (H34.out.2 b' e).2.2 hsz⟩) (by rw [woB_x]; exact HX2.out) TX2.out (w2 := w3) (py := py) (by rw [woB_y]; exact HF.out.1) ((tch_drew My w2).more HF.out.2)
  exact ⟨rfl, hsw.1.mono (fun b' e => e.elim .inl (fun e => .inr ⟨Nat.le_trans hsz e.1, e.2⟩)), (Tch.of HB1.out).more hsw.2⟩
end
end Go.Proofs.YtbodefigeiaodaaDoor
