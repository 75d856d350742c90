/-
  The reference's table: Add (written by mkrx.py).
-/
import Derived.Test.YtknfmjjlfhfocaaDoorRu
import Derived.Test.YtknfmjjlfhfocaaDoorVu
namespace Go.Proofs.YtknfmjjlfhfocaaDoor
set_option linter.unusedSimpArgs false
set_option linter.unusedVariables false
open Go.RowKit Go.Sort Go.Lib Go.Shelf

section
variable {w w' : World} {N X : Nat → Prop} {pr q : Nat} {R : List En}
set_option maxHeartbeats 2000000 in
set_option maxRecDepth 100000 in
theorem radd_wrong (h1 h2 : Int) (l : List Vl) (v : Value) (hv : Sl encV w v l) (hlen : l.length ≤ 100000) (hr : rightB l = false) : Calls Tryd.prog 12 #[ptP pr, .agg #[.int .i64 h1, .int .i64 h2], v] w fun e w' => e = .returned (.tuple #[.int .i64 0, .int .i64 7]) ∧ RowKit.Below w.heap.size w w' := by
  have HR : Hid (∀ W, RowKit.Below w.heap.size w W → Calls Tryd.prog 27 #[v] W fun e w' => e = .returned (.bool false) ∧ RowKit.Below W.heap.size W w') := fun W hb => (rright_call l v W (hv.below hb) hlen).mono fun e w' ⟨h1, h2⟩ => ⟨by rw [h1, hr], h2⟩
  obtain ⟨p, cap, rfl, _, _, _⟩ := hv
  clear hr
  obtain ⟨W0, hW0⟩ : ∃ W0, W0 = w.alloc (.cells #[.int .i64 h1, .int .i64 h2] 38) := ⟨_, rfl⟩
  have B0 := Lib.hid (show RowKit.Below w.heap.size w W0 by rw [hW0]; exact Ba (Below.refl _ w) _)
  go_enter Tryd.func12, Tryd.ntmps12
  go_wp2_with fail
  rw [← hW0]
  clear hW0
  refine wp_region_held_drew (S := (fun w' => Below (W0).heap.size (W0) w' ∧ ∀ b_1 o, b_1 < (W0).heap.size → w'.cell? ⟨b_1, o, none⟩ = (W0).cell? ⟨b_1, o, none⟩)) (by kernel_rfl) (keep0 _) (fun hHeld => ?_)
  (refine wpAnyH_take (i := 0) (v := ?_) rfl (by kernel_rfl) (by kernel_rfl) (by kernel_rfl) (fun _ _ _ h => h) (Or.inl ⟨by rfl, ?rt⟩) (by assumption) ?_; case rt => (intro w hSw; (try dsimp only at hSw); go_simp; (try with_reducible rfl))); (try simp only [Act.put, List.getElem_toArray, List.getElem_cons_succ, List.getElem_cons_zero, List.setIfInBounds_toArray, List.set_cons_zero, List.set_cons_succ])
  (refine wpAnyH_ready (rs := [1]) (by kernel_rfl) (by simp) ?_; refine AllReadyH.cons rfl (fun K hK => ?_) AllReadyH.nil; go_simp; refine (HR.out _ (Bd B0.out)).mono ?_; rintro e w1 ⟨rfl, hb1⟩; refine hK.out _ _ (keepB (by assumption) hb1) (fun hHeld => ?_); clear hK K); (try simp only [Act.put, List.getElem_toArray, List.getElem_cons_succ, List.getElem_cons_zero, List.setIfInBounds_toArray, List.set_cons_zero, List.set_cons_succ])
  (refine wpAnyH_take (i := 2) (v := ?_) rfl (by kernel_rfl) (by kernel_rfl) (by kernel_rfl) (fun _ _ _ h => h) (Or.inl ⟨by rfl, ?rt⟩) (by assumption) ?_; case rt => (intro w hSw; (try dsimp only at hSw); go_simp; (try with_reducible rfl))); (try simp only [Act.put, List.getElem_toArray, List.getElem_cons_succ, List.getElem_cons_zero, List.setIfInBounds_toArray, List.set_cons_zero, List.set_cons_succ])
  (refine wpAnyH_take (i := 3) (v := ?_) rfl (by kernel_rfl) (by kernel_rfl) (by kernel_rfl) (fun _ _ _ h => h) (Or.inl ⟨by rfl, ?rt⟩) (by assumption) ?_; case rt => (intro w hSw; (try dsimp only at hSw); go_simp; (try with_reducible rfl))); (try simp only [Act.put, List.getElem_toArray, List.getElem_cons_succ, List.getElem_cons_zero, List.setIfInBounds_toArray, List.set_cons_zero, List.set_cons_succ])
  refine wpAnyH_take (i := 4) (v := undef) rfl (by kernel_rfl) (by kernel_rfl) (by kernel_rfl) (fun _ _ _ h => h) (Or.inr ⟨by rfl, rfl⟩) (by assumption) ?_; (try simp only [Act.put, List.getElem_toArray, List.getElem_cons_succ, List.getElem_cons_zero, List.setIfInBounds_toArray, List.set_cons_zero, List.set_cons_succ])
  refine wpAnyH_take (i := 5) (v := undef) rfl (by kernel_rfl) (by kernel_rfl) (by kernel_rfl) (fun _ _ _ h => h) (Or.inr ⟨by rfl, rfl⟩) (by assumption) ?_; (try simp only [Act.put, List.getElem_toArray, List.getElem_cons_succ, List.getElem_cons_zero, List.setIfInBounds_toArray, List.set_cons_zero, List.set_cons_succ])
  refine wpAnyH_take (i := 6) (v := undef) rfl (by kernel_rfl) (by kernel_rfl) (by kernel_rfl) (fun _ _ _ h => h) (Or.inr ⟨by rfl, rfl⟩) (by assumption) ?_; (try simp only [Act.put, List.getElem_toArray, List.getElem_cons_succ, List.getElem_cons_zero, List.setIfInBounds_toArray, List.set_cons_zero, List.set_cons_succ])
  refine wpAnyH_take (i := 7) (v := undef) rfl (by kernel_rfl) (by kernel_rfl) (by kernel_rfl) (fun _ _ _ h => h) (Or.inr ⟨by rfl, rfl⟩) (by assumption) ?_; (try simp only [Act.put, List.getElem_toArray, List.getElem_cons_succ, List.getElem_cons_zero, List.setIfInBounds_toArray, List.set_cons_zero, List.set_cons_succ])
  refine wpAnyH_take (i := 8) (v := undef) rfl (by kernel_rfl) (by kernel_rfl) (by kernel_rfl) (fun _ _ _ h => h) (Or.inr ⟨by rfl, rfl⟩) (by assumption) ?_; (try simp only [Act.put, List.getElem_toArray, List.getElem_cons_succ, List.getElem_cons_zero, List.setIfInBounds_toArray, List.set_cons_zero, List.set_cons_succ])
  refine wpAnyH_take (i := 9) (v := undef) rfl (by kernel_rfl) (by kernel_rfl) (by kernel_rfl) (fun _ _ _ h => h) (Or.inr ⟨by rfl, rfl⟩) (by assumption) ?_; (try simp only [Act.put, List.getElem_toArray, List.getElem_cons_succ, List.getElem_cons_zero, List.setIfInBounds_toArray, List.set_cons_zero, List.set_cons_succ])
  refine wpAnyH_take (i := 10) (v := undef) rfl (by kernel_rfl) (by kernel_rfl) (by kernel_rfl) (fun _ _ _ h => h) (Or.inr ⟨by rfl, rfl⟩) (by assumption) ?_; (try simp only [Act.put, List.getElem_toArray, List.getElem_cons_succ, List.getElem_cons_zero, List.setIfInBounds_toArray, List.set_cons_zero, List.set_cons_succ])
  (refine wpAnyH_take (i := 11) (v := ?_) rfl (by kernel_rfl) (by kernel_rfl) (by kernel_rfl) (fun _ _ _ h => h) (Or.inl ⟨by rfl, ?rt⟩) (by assumption) ?_; case rt => (intro w hSw; (try dsimp only at hSw); go_simp; (try with_reducible rfl))); (try simp only [Act.put, List.getElem_toArray, List.getElem_cons_succ, List.getElem_cons_zero, List.setIfInBounds_toArray, List.set_cons_zero, List.set_cons_succ])
  refine wpAnyH_done (by kernel_rfl) ?_ _
  have B1 := Lib.hid (Bt B0.out hHeld.1)
  clear hHeld hb1
  go_wp2
  go_ret2
  exact ⟨rfl, B1.out⟩

set_option maxHeartbeats 4000000 in
set_option maxRecDepth 100000 in
theorem radd_mask (h : RefT w N pr q R) (h1 h2 : Int) (l : List Vl) (v : Value) (hv : Sl encV w v l) (hlen : l.length ≤ 100000) (hr : rightB l = true) (hm : maskV l ≠ q) : Calls Tryd.prog 12 #[ptP pr, .agg #[.int .i64 h1, .int .i64 h2], v] w fun e w' => e = .returned (.tuple #[.int .i64 0, .int .i64 7]) ∧ RowKit.Below w.heap.size w w' := by
  have HR : Hid (∀ W, RowKit.Below w.heap.size w W → Calls Tryd.prog 27 #[v] W fun e w' => e = .returned (.bool true) ∧ RowKit.Below W.heap.size W w') := fun W hb => (rright_call l v W (hv.below hb) hlen).mono fun e w' ⟨h1, h2⟩ => ⟨by rw [h1, hr], h2⟩
  have HM : Hid (∀ W, RowKit.Below w.heap.size w W → Calls Tryd.prog 41 #[v] W fun e w' => e = .returned (.int .u64 (maskV l : Nat)) ∧ RowKit.Below W.heap.size W w') := fun W hb => rmask_call l v W (hv.below hb) ((rightB_iff l).1 hr).2 hlen
  have hne : ((maskV l : Int) != (q : Int)) = true := by simp; omega
  generalize maskV l = ml at *
  have HV := Lib.hid hv
  obtain ⟨p, cap, rfl, _, _, _⟩ := hv
  have HT := Lib.hid h
  obtain ⟨W0, hW0⟩ : ∃ W0, W0 = w.alloc (.cells #[.int .i64 h1, .int .i64 h2] 38) := ⟨_, rfl⟩
  have B0 := Lib.hid (show RowKit.Below w.heap.size w W0 by rw [hW0]; exact Ba (Below.refl _ w) _)
  have b0 := Lib.hid (show W0.heap[w.heap.size]? = some (.cells #[.int .i64 h1, .int .i64 h2] 38 (0, 0)) by rw [hW0]; exact heap_alloc_new w _)
  obtain ⟨p0, cap0, hb, hc1, hc2, _⟩ := (h.below B0.out).open
  obtain ⟨c0, c1, _, _⟩ := two_cells hb
  have hl := cell_lt c0
  clear h hb hr
  go_enter Tryd.func12, Tryd.ntmps12
  go_wp2_with fail
  rw [← hW0]
  clear hW0
  refine wp_region_held_drew (S := (fun w' => Below (W0).heap.size (W0) w' ∧ ∀ b_1 o, b_1 < (W0).heap.size → w'.cell? ⟨b_1, o, none⟩ = (W0).cell? ⟨b_1, o, none⟩)) (by kernel_rfl) (keep0 _) (fun hHeld => ?_)
  (refine wpAnyH_take (i := 0) (v := ?_) rfl (by kernel_rfl) (by kernel_rfl) (by kernel_rfl) (fun _ _ _ h => h) (Or.inl ⟨by rfl, ?rt⟩) (by assumption) ?_; case rt => (intro w hSw; (try dsimp only at hSw); go_simp; (try with_reducible rfl))); (try simp only [Act.put, List.getElem_toArray, List.getElem_cons_succ, List.getElem_cons_zero, List.setIfInBounds_toArray, List.set_cons_zero, List.set_cons_succ])
  (refine wpAnyH_ready (rs := [1]) (by kernel_rfl) (by simp) ?_; refine AllReadyH.cons rfl (fun K hK => ?_) AllReadyH.nil; go_simp; refine (HR.out _ (Bd B0.out)).mono ?_; rintro e w1 ⟨rfl, hb1⟩; refine hK.out _ _ (keepB (by assumption) hb1) (fun hHeld => ?_); clear hK K); (try simp only [Act.put, List.getElem_toArray, List.getElem_cons_succ, List.getElem_cons_zero, List.setIfInBounds_toArray, List.set_cons_zero, List.set_cons_succ])
  (refine wpAnyH_take (i := 2) (v := ?_) rfl (by kernel_rfl) (by kernel_rfl) (by kernel_rfl) (fun _ _ _ h => h) (Or.inl ⟨by rfl, ?rt⟩) (by assumption) ?_; case rt => (intro w hSw; (try dsimp only at hSw); go_simp; (try with_reducible rfl))); (try simp only [Act.put, List.getElem_toArray, List.getElem_cons_succ, List.getElem_cons_zero, List.setIfInBounds_toArray, List.set_cons_zero, List.set_cons_succ])
  (refine wpAnyH_take (i := 3) (v := ?_) rfl (by kernel_rfl) (by kernel_rfl) (by kernel_rfl) (fun _ _ _ h => h) (Or.inl ⟨by rfl, ?rt⟩) (by assumption) ?_; case rt => (intro w hSw; (try dsimp only at hSw); go_simp; (try with_reducible rfl))); (try simp only [Act.put, List.getElem_toArray, List.getElem_cons_succ, List.getElem_cons_zero, List.setIfInBounds_toArray, List.set_cons_zero, List.set_cons_succ])
  (refine wpAnyH_take (i := 4) (v := ?_) rfl (by kernel_rfl) (by kernel_rfl) (by kernel_rfl) (fun _ _ _ h => h) (Or.inl ⟨by rfl, ?rt⟩) (by assumption) ?_; case rt => (intro w hSw; (try dsimp only at hSw); go_simp; (try with_reducible rfl))); (try simp only [Act.put, List.getElem_toArray, List.getElem_cons_succ, List.getElem_cons_zero, List.setIfInBounds_toArray, List.set_cons_zero, List.set_cons_succ])
  (refine wpAnyH_take (i := 6) (v := ?_) rfl (by kernel_rfl) (by kernel_rfl) (by kernel_rfl) (fun _ _ _ h => h) (Or.inl ⟨by rfl, ?rt⟩) (by assumption) ?_; case rt => (intro w hSw; (try dsimp only at hSw); go_simp; (try with_reducible rfl))); (try simp only [Act.put, List.getElem_toArray, List.getElem_cons_succ, List.getElem_cons_zero, List.setIfInBounds_toArray, List.set_cons_zero, List.set_cons_succ])
  (refine wpAnyH_take (i := 7) (v := ?_) rfl (by kernel_rfl) (by kernel_rfl) (by kernel_rfl) (fun _ _ _ h => h) (Or.inl ⟨by rfl, ?rt⟩) (by assumption) ?_; case rt => (intro w hSw; (try dsimp only at hSw); go_simp; (try with_reducible rfl))); (try simp only [Act.put, List.getElem_toArray, List.getElem_cons_succ, List.getElem_cons_zero, List.setIfInBounds_toArray, List.set_cons_zero, List.set_cons_succ])
  (refine wpAnyH_take (i := 8) (v := ?_) rfl (by kernel_rfl) (by kernel_rfl) (by kernel_rfl) (fun _ _ _ h => h) (Or.inl ⟨by rfl, ?rt⟩) (by assumption) ?_; case rt => (intro w hSw; (try dsimp only at hSw); go_simp; (try with_reducible rfl))); (try simp only [Act.put, List.getElem_toArray, List.getElem_cons_succ, List.getElem_cons_zero, List.setIfInBounds_toArray, List.set_cons_zero, List.set_cons_succ])
  (refine wpAnyH_take (i := 9) (v := ?_) rfl (by kernel_rfl) (by kernel_rfl) (by kernel_rfl) (fun _ _ _ h => h) (Or.inl ⟨by rfl, ?rt⟩) (by assumption) ?_; case rt => (intro w hSw; (try dsimp only at hSw); go_simp; (try with_reducible rfl))); (try simp only [Act.put, List.getElem_toArray, List.getElem_cons_succ, List.getElem_cons_zero, List.setIfInBounds_toArray, List.set_cons_zero, List.set_cons_succ])
  (refine wpAnyH_ready (rs := [5]) (by kernel_rfl) (by simp) ?_; refine AllReadyH.cons rfl (fun K hK => ?_) AllReadyH.nil; go_simp; refine (HM.out _ (Bt B0.out hHeld.1)).mono ?_; rintro e w1 ⟨rfl, hb1⟩; refine hK.out _ _ (keepB (by assumption) hb1) (fun hHeld => ?_); clear hK K); (try simp only [Act.put, List.getElem_toArray, List.getElem_cons_succ, List.getElem_cons_zero, List.setIfInBounds_toArray, List.set_cons_zero, List.set_cons_succ])
  (refine wpAnyH_take (i := 10) (v := ?_) rfl (by kernel_rfl) (by kernel_rfl) (by kernel_rfl) (fun _ _ _ h => h) (Or.inl ⟨by rfl, ?rt⟩) (by assumption) ?_; case rt => (intro w hSw; (try dsimp only at hSw); go_simp; (try with_reducible rfl))); (try simp only [Act.put, List.getElem_toArray, List.getElem_cons_succ, List.getElem_cons_zero, List.setIfInBounds_toArray, List.set_cons_zero, List.set_cons_succ])
  (refine wpAnyH_take (i := 11) (v := ?_) rfl (by kernel_rfl) (by kernel_rfl) (by kernel_rfl) (fun _ _ _ h => h) (Or.inl ⟨by rfl, ?rt⟩) (by assumption) ?_; case rt => (intro w hSw; (try dsimp only at hSw); go_simp; (try with_reducible rfl))); (try simp only [Act.put, List.getElem_toArray, List.getElem_cons_succ, List.getElem_cons_zero, List.setIfInBounds_toArray, List.set_cons_zero, List.set_cons_succ])
  refine wpAnyH_done (by kernel_rfl) ?_ _
  have K1 := Lib.hid hHeld.1
  have B1 := Lib.hid (Bt B0.out hHeld.1)
  clear hHeld hb1 c0 c1 hl HR HM
  go_wp2
  go_ret2
  exact ⟨rfl, B1.out⟩

set_option maxHeartbeats 4000000 in
set_option maxRecDepth 100000 in
theorem radd_full (h : RefT w N pr q R) (h1 h2 : Int) (l : List Vl) (v : Value) (hv : Sl encV w v l) (hlen : l.length ≤ 100000) (hr : rightB l = true) (hm : maskV l = q) (hf : R.length = 128) : Calls Tryd.prog 12 #[ptP pr, .agg #[.int .i64 h1, .int .i64 h2], v] w fun e w' => e = .returned (.tuple #[.int .i64 0, .int .i64 2]) ∧ RowKit.Below w.heap.size w w' := by
  have HR : Hid (∀ W, RowKit.Below w.heap.size w W → Calls Tryd.prog 27 #[v] W fun e w' => e = .returned (.bool true) ∧ RowKit.Below W.heap.size W w') := fun W hb => (rright_call l v W (hv.below hb) hlen).mono fun e w' ⟨h1, h2⟩ => ⟨by rw [h1, hr], h2⟩
  have HM : Hid (∀ W, RowKit.Below w.heap.size w W → Calls Tryd.prog 41 #[v] W fun e w' => e = .returned (.int .u64 (maskV l : Nat)) ∧ RowKit.Below W.heap.size W w') := fun W hb => rmask_call l v W (hv.below hb) ((rightB_iff l).1 hr).2 hlen
  rw [hm] at HM
  have HV := Lib.hid hv
  obtain ⟨p, cap, rfl, _, _, _⟩ := hv
  have HT := Lib.hid h
  obtain ⟨W0, hW0⟩ : ∃ W0, W0 = w.alloc (.cells #[.int .i64 h1, .int .i64 h2] 38) := ⟨_, rfl⟩
  have B0 := Lib.hid (show RowKit.Below w.heap.size w W0 by rw [hW0]; exact Ba (Below.refl _ w) _)
  have b0 := Lib.hid (show W0.heap[w.heap.size]? = some (.cells #[.int .i64 h1, .int .i64 h2] 38 (0, 0)) by rw [hW0]; exact heap_alloc_new w _)
  obtain ⟨p0, cap0, hb, hc1, hc2, _⟩ := (h.below B0.out).open
  obtain ⟨c0, c1, _, _⟩ := two_cells hb
  have hl := cell_lt c0
  clear h hb hr
  go_enter Tryd.func12, Tryd.ntmps12
  go_wp2_with fail
  rw [← hW0]
  clear hW0
  refine wp_region_held_drew (S := (fun w' => Below (W0).heap.size (W0) w' ∧ ∀ b_1 o, b_1 < (W0).heap.size → w'.cell? ⟨b_1, o, none⟩ = (W0).cell? ⟨b_1, o, none⟩)) (by kernel_rfl) (keep0 _) (fun hHeld => ?_)
  (refine wpAnyH_take (i := 0) (v := ?_) rfl (by kernel_rfl) (by kernel_rfl) (by kernel_rfl) (fun _ _ _ h => h) (Or.inl ⟨by rfl, ?rt⟩) (by assumption) ?_; case rt => (intro w hSw; (try dsimp only at hSw); go_simp; (try with_reducible rfl))); (try simp only [Act.put, List.getElem_toArray, List.getElem_cons_succ, List.getElem_cons_zero, List.setIfInBounds_toArray, List.set_cons_zero, List.set_cons_succ])
  (refine wpAnyH_ready (rs := [1]) (by kernel_rfl) (by simp) ?_; refine AllReadyH.cons rfl (fun K hK => ?_) AllReadyH.nil; go_simp; refine (HR.out _ (Bd B0.out)).mono ?_; rintro e w1 ⟨rfl, hb1⟩; refine hK.out _ _ (keepB (by assumption) hb1) (fun hHeld => ?_); clear hK K); (try simp only [Act.put, List.getElem_toArray, List.getElem_cons_succ, List.getElem_cons_zero, List.setIfInBounds_toArray, List.set_cons_zero, List.set_cons_succ])
  (refine wpAnyH_take (i := 2) (v := ?_) rfl (by kernel_rfl) (by kernel_rfl) (by kernel_rfl) (fun _ _ _ h => h) (Or.inl ⟨by rfl, ?rt⟩) (by assumption) ?_; case rt => (intro w hSw; (try dsimp only at hSw); go_simp; (try with_reducible rfl))); (try simp only [Act.put, List.getElem_toArray, List.getElem_cons_succ, List.getElem_cons_zero, List.setIfInBounds_toArray, List.set_cons_zero, List.set_cons_succ])
  (refine wpAnyH_take (i := 3) (v := ?_) rfl (by kernel_rfl) (by kernel_rfl) (by kernel_rfl) (fun _ _ _ h => h) (Or.inl ⟨by rfl, ?rt⟩) (by assumption) ?_; case rt => (intro w hSw; (try dsimp only at hSw); go_simp; (try with_reducible rfl))); (try simp only [Act.put, List.getElem_toArray, List.getElem_cons_succ, List.getElem_cons_zero, List.setIfInBounds_toArray, List.set_cons_zero, List.set_cons_succ])
  (refine wpAnyH_take (i := 4) (v := ?_) rfl (by kernel_rfl) (by kernel_rfl) (by kernel_rfl) (fun _ _ _ h => h) (Or.inl ⟨by rfl, ?rt⟩) (by assumption) ?_; case rt => (intro w hSw; (try dsimp only at hSw); go_simp; (try with_reducible rfl))); (try simp only [Act.put, List.getElem_toArray, List.getElem_cons_succ, List.getElem_cons_zero, List.setIfInBounds_toArray, List.set_cons_zero, List.set_cons_succ])
  (refine wpAnyH_take (i := 6) (v := ?_) rfl (by kernel_rfl) (by kernel_rfl) (by kernel_rfl) (fun _ _ _ h => h) (Or.inl ⟨by rfl, ?rt⟩) (by assumption) ?_; case rt => (intro w hSw; (try dsimp only at hSw); go_simp; (try with_reducible rfl))); (try simp only [Act.put, List.getElem_toArray, List.getElem_cons_succ, List.getElem_cons_zero, List.setIfInBounds_toArray, List.set_cons_zero, List.set_cons_succ])
  (refine wpAnyH_take (i := 7) (v := ?_) rfl (by kernel_rfl) (by kernel_rfl) (by kernel_rfl) (fun _ _ _ h => h) (Or.inl ⟨by rfl, ?rt⟩) (by assumption) ?_; case rt => (intro w hSw; (try dsimp only at hSw); go_simp; (try with_reducible rfl))); (try simp only [Act.put, List.getElem_toArray, List.getElem_cons_succ, List.getElem_cons_zero, List.setIfInBounds_toArray, List.set_cons_zero, List.set_cons_succ])
  (refine wpAnyH_take (i := 8) (v := ?_) rfl (by kernel_rfl) (by kernel_rfl) (by kernel_rfl) (fun _ _ _ h => h) (Or.inl ⟨by rfl, ?rt⟩) (by assumption) ?_; case rt => (intro w hSw; (try dsimp only at hSw); go_simp; (try with_reducible rfl))); (try simp only [Act.put, List.getElem_toArray, List.getElem_cons_succ, List.getElem_cons_zero, List.setIfInBounds_toArray, List.set_cons_zero, List.set_cons_succ])
  (refine wpAnyH_take (i := 9) (v := ?_) rfl (by kernel_rfl) (by kernel_rfl) (by kernel_rfl) (fun _ _ _ h => h) (Or.inl ⟨by rfl, ?rt⟩) (by assumption) ?_; case rt => (intro w hSw; (try dsimp only at hSw); go_simp; (try with_reducible rfl))); (try simp only [Act.put, List.getElem_toArray, List.getElem_cons_succ, List.getElem_cons_zero, List.setIfInBounds_toArray, List.set_cons_zero, List.set_cons_succ])
  (refine wpAnyH_ready (rs := [5]) (by kernel_rfl) (by simp) ?_; refine AllReadyH.cons rfl (fun K hK => ?_) AllReadyH.nil; go_simp; refine (HM.out _ (Bt B0.out hHeld.1)).mono ?_; rintro e w1 ⟨rfl, hb1⟩; refine hK.out _ _ (keepB (by assumption) hb1) (fun hHeld => ?_); clear hK K); (try simp only [Act.put, List.getElem_toArray, List.getElem_cons_succ, List.getElem_cons_zero, List.setIfInBounds_toArray, List.set_cons_zero, List.set_cons_succ])
  (refine wpAnyH_take (i := 10) (v := ?_) rfl (by kernel_rfl) (by kernel_rfl) (by kernel_rfl) (fun _ _ _ h => h) (Or.inl ⟨by rfl, ?rt⟩) (by assumption) ?_; case rt => (intro w hSw; (try dsimp only at hSw); go_simp; (try with_reducible rfl))); (try simp only [Act.put, List.getElem_toArray, List.getElem_cons_succ, List.getElem_cons_zero, List.setIfInBounds_toArray, List.set_cons_zero, List.set_cons_succ])
  (refine wpAnyH_take (i := 11) (v := ?_) rfl (by kernel_rfl) (by kernel_rfl) (by kernel_rfl) (fun _ _ _ h => h) (Or.inl ⟨by rfl, ?rt⟩) (by assumption) ?_; case rt => (intro w hSw; (try dsimp only at hSw); go_simp; (try with_reducible rfl))); (try simp only [Act.put, List.getElem_toArray, List.getElem_cons_succ, List.getElem_cons_zero, List.setIfInBounds_toArray, List.set_cons_zero, List.set_cons_succ])
  refine wpAnyH_done (by kernel_rfl) ?_ _
  have K1 := Lib.hid hHeld.1
  have B1 := Lib.hid (Bt B0.out hHeld.1)
  clear hHeld hb1 c0 c1 hl HR HM
  obtain ⟨p1, cap1, hb1, _, _, _⟩ := (HT.out.below B1.out).open
  obtain ⟨c0, c1, _, _⟩ := two_cells hb1
  have hl := cell_lt c0
  rw [hf] at c1
  clear hb1
  go_wp2
  go_ret2
  exact ⟨rfl, B1.out⟩

set_option maxHeartbeats 4000000 in
set_option maxRecDepth 100000 in
theorem radd_yes (h : RefT w N pr q R) (h1 h2 : Int) (l : List Vl) (v : Value) (hv : Sl encV w v l) (hlen : l.length ≤ 100000) (hr : rightB l = true) (hm : maskV l = q) (hf : R.length < 128) : Calls Tryd.prog 12 #[ptP pr, .agg #[.int .i64 h1, .int .i64 h2], v] w fun e w' => e = .returned (.tuple #[.int .i64 R.length, .int .i64 0]) ∧ RefT w' (New N w w') pr q (R ++ [((h1, h2), l)]) ∧ Tch N w w' := by
  have HR : Hid (∀ W, RowKit.Below w.heap.size w W → Calls Tryd.prog 27 #[v] W fun e w' => e = .returned (.bool true) ∧ RowKit.Below W.heap.size W w') := fun W hb => (rright_call l v W (hv.below hb) hlen).mono fun e w' ⟨h1, h2⟩ => ⟨by rw [h1, hr], h2⟩
  have HM : Hid (∀ W, RowKit.Below w.heap.size w W → Calls Tryd.prog 41 #[v] W fun e w' => e = .returned (.int .u64 (maskV l : Nat)) ∧ RowKit.Below W.heap.size W w') := fun W hb => rmask_call l v W (hv.below hb) ((rightB_iff l).1 hr).2 hlen
  rw [hm] at HM
  have HV := Lib.hid hv
  obtain ⟨p, cap, rfl, _, _, _⟩ := hv
  have HT := Lib.hid h
  obtain ⟨W0, hW0⟩ : ∃ W0, W0 = w.alloc (.cells #[.int .i64 h1, .int .i64 h2] 38) := ⟨_, rfl⟩
  have B0 := Lib.hid (show RowKit.Below w.heap.size w W0 by rw [hW0]; exact Ba (Below.refl _ w) _)
  have b0 := Lib.hid (show W0.heap[w.heap.size]? = some (.cells #[.int .i64 h1, .int .i64 h2] 38 (0, 0)) by rw [hW0]; exact heap_alloc_new w _)
  obtain ⟨p0, cap0, hb, hc1, hc2, _⟩ := (h.below B0.out).open
  obtain ⟨c0, c1, _, _⟩ := two_cells hb
  have hl := cell_lt c0
  clear h hb hr
  go_enter Tryd.func12, Tryd.ntmps12
  go_wp2_with fail
  rw [← hW0]
  clear hW0
  refine wp_region_held_drew (S := (fun w' => Below (W0).heap.size (W0) w' ∧ ∀ b_1 o, b_1 < (W0).heap.size → w'.cell? ⟨b_1, o, none⟩ = (W0).cell? ⟨b_1, o, none⟩)) (by kernel_rfl) (keep0 _) (fun hHeld => ?_)
  (refine wpAnyH_take (i := 0) (v := ?_) rfl (by kernel_rfl) (by kernel_rfl) (by kernel_rfl) (fun _ _ _ h => h) (Or.inl ⟨by rfl, ?rt⟩) (by assumption) ?_; case rt => (intro w hSw; (try dsimp only at hSw); go_simp; (try with_reducible rfl))); (try simp only [Act.put, List.getElem_toArray, List.getElem_cons_succ, List.getElem_cons_zero, List.setIfInBounds_toArray, List.set_cons_zero, List.set_cons_succ])
  (refine wpAnyH_ready (rs := [1]) (by kernel_rfl) (by simp) ?_; refine AllReadyH.cons rfl (fun K hK => ?_) AllReadyH.nil; go_simp; refine (HR.out _ (Bd B0.out)).mono ?_; rintro e w1 ⟨rfl, hb1⟩; refine hK.out _ _ (keepB (by assumption) hb1) (fun hHeld => ?_); clear hK K); (try simp only [Act.put, List.getElem_toArray, List.getElem_cons_succ, List.getElem_cons_zero, List.setIfInBounds_toArray, List.set_cons_zero, List.set_cons_succ])
  (refine wpAnyH_take (i := 2) (v := ?_) rfl (by kernel_rfl) (by kernel_rfl) (by kernel_rfl) (fun _ _ _ h => h) (Or.inl ⟨by rfl, ?rt⟩) (by assumption) ?_; case rt => (intro w hSw; (try dsimp only at hSw); go_simp; (try with_reducible rfl))); (try simp only [Act.put, List.getElem_toArray, List.getElem_cons_succ, List.getElem_cons_zero, List.setIfInBounds_toArray, List.set_cons_zero, List.set_cons_succ])
  (refine wpAnyH_take (i := 3) (v := ?_) rfl (by kernel_rfl) (by kernel_rfl) (by kernel_rfl) (fun _ _ _ h => h) (Or.inl ⟨by rfl, ?rt⟩) (by assumption) ?_; case rt => (intro w hSw; (try dsimp only at hSw); go_simp; (try with_reducible rfl))); (try simp only [Act.put, List.getElem_toArray, List.getElem_cons_succ, List.getElem_cons_zero, List.setIfInBounds_toArray, List.set_cons_zero, List.set_cons_succ])
  (refine wpAnyH_take (i := 4) (v := ?_) rfl (by kernel_rfl) (by kernel_rfl) (by kernel_rfl) (fun _ _ _ h => h) (Or.inl ⟨by rfl, ?rt⟩) (by assumption) ?_; case rt => (intro w hSw; (try dsimp only at hSw); go_simp; (try with_reducible rfl))); (try simp only [Act.put, List.getElem_toArray, List.getElem_cons_succ, List.getElem_cons_zero, List.setIfInBounds_toArray, List.set_cons_zero, List.set_cons_succ])
  (refine wpAnyH_take (i := 6) (v := ?_) rfl (by kernel_rfl) (by kernel_rfl) (by kernel_rfl) (fun _ _ _ h => h) (Or.inl ⟨by rfl, ?rt⟩) (by assumption) ?_; case rt => (intro w hSw; (try dsimp only at hSw); go_simp; (try with_reducible rfl))); (try simp only [Act.put, List.getElem_toArray, List.getElem_cons_succ, List.getElem_cons_zero, List.setIfInBounds_toArray, List.set_cons_zero, List.set_cons_succ])
  (refine wpAnyH_take (i := 7) (v := ?_) rfl (by kernel_rfl) (by kernel_rfl) (by kernel_rfl) (fun _ _ _ h => h) (Or.inl ⟨by rfl, ?rt⟩) (by assumption) ?_; case rt => (intro w hSw; (try dsimp only at hSw); go_simp; (try with_reducible rfl))); (try simp only [Act.put, List.getElem_toArray, List.getElem_cons_succ, List.getElem_cons_zero, List.setIfInBounds_toArray, List.set_cons_zero, List.set_cons_succ])
  (refine wpAnyH_take (i := 8) (v := ?_) rfl (by kernel_rfl) (by kernel_rfl) (by kernel_rfl) (fun _ _ _ h => h) (Or.inl ⟨by rfl, ?rt⟩) (by assumption) ?_; case rt => (intro w hSw; (try dsimp only at hSw); go_simp; (try with_reducible rfl))); (try simp only [Act.put, List.getElem_toArray, List.getElem_cons_succ, List.getElem_cons_zero, List.setIfInBounds_toArray, List.set_cons_zero, List.set_cons_succ])
  (refine wpAnyH_take (i := 9) (v := ?_) rfl (by kernel_rfl) (by kernel_rfl) (by kernel_rfl) (fun _ _ _ h => h) (Or.inl ⟨by rfl, ?rt⟩) (by assumption) ?_; case rt => (intro w hSw; (try dsimp only at hSw); go_simp; (try with_reducible rfl))); (try simp only [Act.put, List.getElem_toArray, List.getElem_cons_succ, List.getElem_cons_zero, List.setIfInBounds_toArray, List.set_cons_zero, List.set_cons_succ])
  (refine wpAnyH_ready (rs := [5]) (by kernel_rfl) (by simp) ?_; refine AllReadyH.cons rfl (fun K hK => ?_) AllReadyH.nil; go_simp; refine (HM.out _ (Bt B0.out hHeld.1)).mono ?_; rintro e w1 ⟨rfl, hb1⟩; refine hK.out _ _ (keepB (by assumption) hb1) (fun hHeld => ?_); clear hK K); (try simp only [Act.put, List.getElem_toArray, List.getElem_cons_succ, List.getElem_cons_zero, List.setIfInBounds_toArray, List.set_cons_zero, List.set_cons_succ])
  (refine wpAnyH_take (i := 10) (v := ?_) rfl (by kernel_rfl) (by kernel_rfl) (by kernel_rfl) (fun _ _ _ h => h) (Or.inl ⟨by rfl, ?rt⟩) (by assumption) ?_; case rt => (intro w hSw; (try dsimp only at hSw); go_simp; (try with_reducible rfl))); (try simp only [Act.put, List.getElem_toArray, List.getElem_cons_succ, List.getElem_cons_zero, List.setIfInBounds_toArray, List.set_cons_zero, List.set_cons_succ])
  (refine wpAnyH_take (i := 11) (v := ?_) rfl (by kernel_rfl) (by kernel_rfl) (by kernel_rfl) (fun _ _ _ h => h) (Or.inl ⟨by rfl, ?rt⟩) (by assumption) ?_; case rt => (intro w hSw; (try dsimp only at hSw); go_simp; (try with_reducible rfl))); (try simp only [Act.put, List.getElem_toArray, List.getElem_cons_succ, List.getElem_cons_zero, List.setIfInBounds_toArray, List.set_cons_zero, List.set_cons_succ])
  refine wpAnyH_done (by kernel_rfl) ?_ _
  have K1 := Lib.hid hHeld.1
  have B1 := Lib.hid (Bt B0.out hHeld.1)
  clear hHeld hb1 c0 c1 hl HR HM
  obtain ⟨rows, vr, N1, N2, r1, r2, r3, r4, r5, r6, r7, r8⟩ := HT.out.below B1.out
  obtain ⟨p1, cap1, rfl, hq1, hq2, _⟩ := row_val r2.1
  have hhR : rows.length = R.length := r3
  rw [r3] at r1 hq1
  obtain ⟨c0, c1, z0, z1⟩ := two_cells r1
  have hl := cell_lt c0
  unfold maxLen at hq2
  have hfi : ¬ (128 : Int) ≤ (R.length : Int) := by omega
  have R1 := Lib.hid r1
  have R2 := Lib.hid r2
  have HV1 := Lib.hid (HV.out.below B1.out)
  have b1 := Lib.hid (blk_below b0.out K1.out)
  obtain ⟨d0, d1, _, _⟩ := two_cells b1.out
  have hl2 := cell_lt d0
  have HLT := Lib.hid HT.out.lt
  have HR4 := Lib.hid r4
  have HR6 := Lib.hid r6
  have HR7 := Lib.hid r7
  have HR5 := Lib.hid r5
  clear r1 r2 r4 r6 r7 r8 r5 HT
  go_wp2_with fail
  have A1 := Lib.hid (Ba (Bd (Below.refl _ w1)) (.cells #[] 41))
  have O1 := Lib.hid (show (w1.drew.alloc (.cells #[] 41)).ownsRow w1.heap.size 41 3 (.slice (some ⟨w1.heap.size, 0, none⟩) 0 0) 0 (flat encV []) from World.ownsRow_made _ #[] 0 (Nat.le_refl _) (Nat.zero_le _) (by simp))
  have S1 := Lib.hid (HV1.out.below A1.out)
  have hbase : w1.heap.size ≤ (w1.drew.alloc (.cells #[] 41)).heap.size := A1.out.size
  have RV1 := Lib.hid (show World.ownsRow w1 0 51 3 (.slice p1 R.length cap1) R.length (flat encE rows) from by have := R2.out.1; rwa [r3] at this)
  go_region_law (first
    | (refine step_app2 apV rfl (.tmp 32) (.tmp 33) rfl w1.heap.size (by rfl) (by rfl) O1.out rfl S1.out (by simp; omega) hbase ?_; intro va wa howna hgrowa hata _; replace howna : wa.ownsRow w1.heap.size 41 3 va l.length (flat encV l) := howna; have OA := Lib.hid howna; obtain ⟨pa, ca, rfl, _, _, _⟩ := row_val howna; have BA := Lib.hid (grownB A1.out O1.out hgrowa); have c1a := Bc BA.out hl c1; have d0a := Bc BA.out hl2 d0; have d1a := Bc BA.out hl2 d1; have z1a := Bf BA.out hl z1; have hla := Bl BA.out hl; have hl2a := Bl BA.out hl2; have B2 := Lib.hid (Ba BA.out (.cells #[.int .i64 h1, .int .i64 h2, .slice pa l.length ca] 51)); have RV2 := Lib.hid (row_below RV1.out B2.out); have SE := Lib.hid (sl_lit (enc := encE) (w := wa) (cs := #[.int .i64 h1, .int .i64 h2, .slice pa l.length ca]) (t := 51) (b := wa.heap.size) [((h1, h2), (pa, l.length, ca))] rfl rfl (by unfold maxLen; simp)); clear howna hgrowa hata)
    | (refine step_app2 apE rfl (.tmp 30) (.tmp 36) rfl 0 (by rfl) (by rfl) RV2.out hhR.symm SE.out (by simp; omega) (Nat.zero_le _) ?_; intro vb wb hownb hgrowb hatb _; have OB := Lib.hid hownb; have GB := Lib.hid hgrowb; have TB := Lib.hid hatb; obtain ⟨pb, cb, rfl, _, _, _⟩ := row_val hownb; have PRb := Lib.hid (grown_far RV2.out hgrowb (blk_below R1.out B2.out) (by decide)); obtain ⟨y0, y1, yz0, yz1⟩ := two_cells PRb.out; have hlb := cell_lt y0; clear hownb hgrowb hatb))
  all_goals
    have hlr : (rows ++ [((h1, h2), (pa, l.length, ca))]).length = R.length + 1 := by simp [hhR]
    have hlen2 : (((rows ++ [((h1, h2), (pa, l.length, ca))]).length : Nat) : Int) - 1 = (R.length : Int) := by rw [hlr]; omega
    have hA2 : w1.heap.size ≤ wa.heap.size := BA.out.size
    have hAs : (wa.alloc (.cells #[.int .i64 h1, .int .i64 h2, .slice pa l.length ca] 51)).heap.size = wa.heap.size + 1 := by simp
    have hw1 : w.heap.size ≤ w1.heap.size := B1.out.size
    have tB : Tch N1 (wa.alloc (.cells #[.int .i64 h1, .int .i64 h2, .slice pa l.length ca] 51)) wb := Tch.grown GB.out (fun g hg => R2.out.2 g (by rw [hhR]; exact hg))
    have tS := tB.more (Tch.set (M := N1) (p := ⟨pr, 1, none⟩) wb HR5.out (.slice pb (rows ++ [((h1, h2), (pa, l.length, ca))]).length cb))
    have tW := (Tch.of B2.out : Tch N1 w1 _).more tS
    have hN1 : ∀ b, N1 b → b < w.heap.size := fun b e => HLT.out b (HR6.out b e).1
    have hsn : SlN (fun b => w1.heap.size ≤ b ∧ b < wa.heap.size) encV wa (.slice pa l.length ca) l := by
      obtain ⟨a1, a2, a3, a4, a5, a6⟩ := SlN.of lenV OA.out rfl
      exact ⟨a1, a2, a3, a4, a5, fun hh => by
        obtain ⟨b1, b2, b3, b4, b5, b6⟩ := a6 hh
        exact ⟨b1, b2, b3, b4, ⟨b5, b4⟩, b6⟩⟩
    have hsn2 := (hsn.below (Ba (Below.refl _ wa) (.cells #[.int .i64 h1, .int .i64 h2, .slice pa l.length ca] 51))).kept tS (fun b a1 a2 => by have := hN1 b a2; omega)
    have hszb := tB.size
    have hhead := heap_setCell_same wb pr 1 _ _ (.slice pb (rows ++ [((h1, h2), (pa, l.length, ca))]).length cb) PRb.out
    have hREF : RefT (wb.setCell ⟨pr, 1, none⟩ (.slice pb (rows ++ [((h1, h2), (pa, l.length, ca))]).length cb)) (New N w (wb.setCell ⟨pr, 1, none⟩ (.slice pb (rows ++ [((h1, h2), (pa, l.length, ca))]).length cb))) pr q (R ++ [((h1, h2), l)]) := by
      refine ⟨rows ++ [((h1, h2), (pa, l.length, ca))], _, fun b => N1 b ∨ (b = wa.heap.size + 1 ∧ b < wb.heap.size), fun b => N2 b ∨ (w1.heap.size ≤ b ∧ b < wa.heap.size), by simpa using hhead, ⟨set_row PRb.out OB.out (by decide) 1 _, fun g' e => ?_⟩, by rw [hlr]; simp, fun i hi => ?_, .inl HR5.out, fun b e => ⟨?_, fun c => ?_⟩, fun b e => ?_, fun b e => ?_⟩
      · rcases TB.out with c | c
        · exact .inl (R2.out.2 g' (by rw [hhR]; exact c.symm.trans e))
        · have e2 : some g' = some (wa.alloc (.cells #[.int .i64 h1, .int .i64 h2, .slice pa l.length ca] 51)).heap.size := e.symm.trans c
          have e3 := Option.some.inj e2
          exact .inr ⟨by omega, row_lt OB.out e⟩
      · by_cases c : i < R.length
        · have e1 : (rows ++ [((h1, h2), (pa, l.length, ca))])[i]! = rows[i]! := by rw [getElem!_pos _ i (by rw [hlr]; omega), getElem!_pos rows i (by omega), List.getElem_append_left]
          have e2 : (R ++ [((h1, h2), l)])[i]! = R[i]! := by rw [getElem!_pos _ i (by simp; omega), getElem!_pos R i c, List.getElem_append_left]
          rw [e1, e2]
          exact ⟨(HR4.out i c).1, ((HR4.out i c).2.kept tW (fun b a1 a2 => (HR6.out b a2).2 a1)).mono (fun b e => .inl e)⟩
        · have c2 : i = R.length := by simp at hi; omega
          have e1 : (rows ++ [((h1, h2), (pa, l.length, ca))])[i]! = ((h1, h2), (pa, l.length, ca)) := by rw [getElem!_pos _ i (by rw [hlr]; omega), List.getElem_append_right (by omega)]; simp
          have e2 : (R ++ [((h1, h2), l)])[i]! = ((h1, h2), l) := by rw [getElem!_pos _ i (by simp; omega), List.getElem_append_right (by omega)]; simp
          rw [e1, e2]
          exact ⟨rfl, hsn2.mono (fun b e => .inr e)⟩
      · rcases e with e | e
        · exact .inl (HR6.out b e).1
        · exact .inr ⟨by omega, by simpa using e.2⟩
      · rcases e with e | e
        · rcases c with c | c
          · exact (HR6.out b e).2 c
          · have := hN1 b e; omega
        · rcases c with c | c
          · have := HLT.out b (HR7.out b c); omega
          · omega
      · rcases e with e | e
        · exact .inl (HR7.out b e)
        · exact .inr ⟨by omega, by simp; omega⟩
      · rcases e with e | e
        · have := HLT.out b e; simp; omega
        · exact e.2
    have HREF := Lib.hid hREF
    have HTW := Lib.hid (show Tch N w (wb.setCell ⟨pr, 1, none⟩ (.slice pb (rows ++ [((h1, h2), (pa, l.length, ca))]).length cb)) from (Tch.of B1.out).more (tW.mono (fun b e => (HR6.out b e).1)))
    clear hREF tW tS tB hsn hsn2 hhead
    rw [hlr] at HREF HTW hlen2
    go_wp2
    go_ret2
    exact ⟨rfl, HREF.out, HTW.out⟩
end
end Go.Proofs.YtknfmjjlfhfocaaDoor
