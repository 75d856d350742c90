/-
  The reference's Put (written by mkvv.py).
-/
import Derived.Test.YtknfmjjlfhfocaaDoorVt
namespace Go.Proofs.YtknfmjjlfhfocaaDoor
set_option linter.unusedSimpArgs false
set_option linter.unusedVariables false
open Go.RowKit Go.Sort Go.Lib Go.Shelf

theorem keepOfB {W0 w' : World} (h : RowKit.Below W0.heap.size W0 w') : RowKit.Below W0.heap.size W0 w' ∧ ∀ b o, b < W0.heap.size → w'.cell? ⟨b, o, none⟩ = W0.cell? ⟨b, o, none⟩ := ⟨h, fun b o hl => h.cell (p := ⟨b, o, none⟩) hl⟩
theorem own_mono {w : World} {b b' et k n : Nat} {v : Value} {xs : List Value} (h : w.ownsRow b et k v n xs) (hb : b' ≤ b) : w.ownsRow b' et k v n xs := by
  refine ⟨h.1, ?_⟩
  rcases h.2 with h | ⟨g, cap, cur, e, hg, r⟩
  · exact .inl h
  · exact .inr ⟨g, cap, cur, e, by omega, r⟩
theorem own_below {w w' : World} {b et k n : Nat} {v : Value} {xs : List Value} (h : w.ownsRow b et k v n xs) (hb : RowKit.Below w.heap.size w w') : w'.ownsRow b et k v n xs := row_keep h (fun g hg => hb.block g (row_lt h hg))

set_option maxHeartbeats 4000000 in
set_option maxRecDepth 100000 in
theorem rput_call (l : List Vl) (v : Value) (x1 x2 x3 : Int) (w : World) (hl : Sl encV w v l) (hr : RightV l) (hx : chk (x1, x2, x3) = 0) (hlen : l.length ≤ 1000) :
    Calls Tryd.prog 31 #[v, .agg #[.int .i64 x1, .int .i64 x2, .int .i64 x3]] w fun e w' => (∃ v', e = .returned v' ∧ Sl encV w' v' (putV l (x1, x2, x3))) ∧ RowKit.Below w.heap.size w w' := by
  have hsz : (w.alloc (.cells #[.int .i64 x1, .int .i64 x2, .int .i64 x3] 41)).heap.size = w.heap.size + 1 := by simp
  have HS := Lib.hid (hl.below (Ba (Below.refl _ w) (.cells #[.int .i64 x1, .int .i64 x2, .int .i64 x3] 41)))
  obtain ⟨D, hD⟩ : ∃ D, D = dropV l x1 := ⟨_, rfl⟩
  have hDl : D.length ≤ l.length := by rw [hD]; exact List.length_filter_le _ _
  obtain ⟨PL, hPL⟩ : ∃ PL, PL = putV l (x1, x2, x3) := ⟨_, rfl⟩
  have hrow : rowL (D ++ [(x1, x2, x3)]) = PL := by rw [hD, hPL]; exact putV_ref hr hx
  obtain ⟨n, hn⟩ : ∃ n, n = rowN (D ++ [(x1, x2, x3)]) := ⟨_, rfl⟩
  have CD : Hid (∀ W, RowKit.Below (w.alloc (.cells #[.int .i64 x1, .int .i64 x2, .int .i64 x3] 41)).heap.size (w.alloc (.cells #[.int .i64 x1, .int .i64 x2, .int .i64 x3] 41)) W → Calls Tryd.prog 55 #[v, .int .i64 x1] W fun e w' => (∃ v', e = .returned v' ∧ w'.ownsRow (w.alloc (.cells #[.int .i64 x1, .int .i64 x2, .int .i64 x3] 41)).heap.size 41 3 v' D.length (flat encV D)) ∧ RowKit.Below W.heap.size W w') := fun W h => (rdrop_call l v x1 W (HS.out.below h) (by omega)).mono fun e w' ⟨v', h1, h2, h3⟩ => ⟨⟨v', h1, by rw [hD]; exact own_mono h2 h.size⟩, h3⟩
  have CR : Hid (∀ W va, Sl encV W va (D ++ [(x1, x2, x3)]) → Calls Tryd.prog 53 #[va] W fun e w' => (∃ v', e = .returned (.tuple #[v', .int .i64 n]) ∧ Sl encV w' v' PL) ∧ RowKit.Below W.heap.size W w') := fun W va h => by
    have := rrow_call (D ++ [(x1, x2, x3)]) va W h (by simp; omega)
    rwa [hrow, ← hn] at this
  rw [← hPL]
  have HDL := Lib.hid hDl
  clear hl hr hx hD hPL hrow hn hDl
  go_enter Tryd.func31, Tryd.ntmps31
  go_wp2_with fail
  refine wp_region_held_drew (S := (fun w' => Below (w.alloc (.cells #[.int .i64 x1, .int .i64 x2, .int .i64 x3] 41)).heap.size (w.alloc (.cells #[.int .i64 x1, .int .i64 x2, .int .i64 x3] 41)) w' ∧ ∀ b_1 o, b_1 < (w.alloc (.cells #[.int .i64 x1, .int .i64 x2, .int .i64 x3] 41)).heap.size → w'.cell? ⟨b_1, o, none⟩ = (w.alloc (.cells #[.int .i64 x1, .int .i64 x2, .int .i64 x3] 41)).cell? ⟨b_1, o, none⟩)) (by kernel_rfl) (keep0 _) (fun hHeld => ?_)
  (refine wpAnyH_take (i := 0) (v := ?_) rfl (by kernel_rfl) (by kernel_rfl) (by kernel_rfl) (fun _ _ _ h => h) (Or.inl ⟨by rfl, ?rt⟩) (by assumption) ?_; case rt => (intro w hSw; (try dsimp only at hSw); go_simp; (try with_reducible rfl))); (try simp only [Act.put, List.getElem_toArray, List.getElem_cons_succ, List.getElem_cons_zero, List.setIfInBounds_toArray, List.set_cons_zero, List.set_cons_succ])
  (refine wpAnyH_take (i := 1) (v := ?_) rfl (by kernel_rfl) (by kernel_rfl) (by kernel_rfl) (fun _ _ _ h => h) (Or.inl ⟨by rfl, ?rt⟩) (by assumption) ?_; case rt => (intro w hSw; (try dsimp only at hSw); go_simp; (try with_reducible rfl))); (try simp only [Act.put, List.getElem_toArray, List.getElem_cons_succ, List.getElem_cons_zero, List.setIfInBounds_toArray, List.set_cons_zero, List.set_cons_succ])
  (refine wpAnyH_take (i := 2) (v := ?_) rfl (by kernel_rfl) (by kernel_rfl) (by kernel_rfl) (fun _ _ _ h => h) (Or.inl ⟨by rfl, ?rt⟩) (by assumption) ?_; case rt => (intro w hSw; (try dsimp only at hSw); go_simp; (try with_reducible rfl))); (try simp only [Act.put, List.getElem_toArray, List.getElem_cons_succ, List.getElem_cons_zero, List.setIfInBounds_toArray, List.set_cons_zero, List.set_cons_succ])
  (refine wpAnyH_take (i := 4) (v := ?_) rfl (by kernel_rfl) (by kernel_rfl) (by kernel_rfl) (fun _ _ _ h => h) (Or.inl ⟨by rfl, ?rt⟩) (by assumption) ?_; case rt => (intro w hSw; (try dsimp only at hSw); go_simp; (try with_reducible rfl))); (try simp only [Act.put, List.getElem_toArray, List.getElem_cons_succ, List.getElem_cons_zero, List.setIfInBounds_toArray, List.set_cons_zero, List.set_cons_succ])
  refine wpAnyH_ready (rs := [3, 5]) (by kernel_rfl) (by simp) ?_; refine (AllReadyH.cons rfl (fun K hK => ?_) (AllReadyH.cons rfl (fun K hK => ?_) AllReadyH.nil))
  · go_simp; refine (CD.out _ (And.left (by assumption))).mono ?_; rintro e w1 ⟨⟨v1, rfl, ho1⟩, hb1⟩; refine hK.out _ _ (keepB (by assumption) hb1) (fun hHeld => ?_); clear hK K; (try simp only [Act.put, List.getElem_toArray, List.getElem_cons_succ, List.getElem_cons_zero, List.setIfInBounds_toArray, List.set_cons_zero, List.set_cons_succ]); have O1 := Lib.hid ho1; have BC := Lib.hid hb1; clear ho1 hb1
    refine wpAnyH_ready (rs := [5]) (by kernel_rfl) (by simp) ?_; refine (AllReadyH.cons rfl (fun K hK => ?_) AllReadyH.nil)
    go_simp; refine hK.out _ _ (keepA (by assumption) _) (fun hHeld => ?_); clear hK K; (try simp only [Act.put, List.getElem_toArray, List.getElem_cons_succ, List.getElem_cons_zero, List.setIfInBounds_toArray, List.set_cons_zero, List.set_cons_succ])
    refine wpAnyH_ready (rs := [6]) (by kernel_rfl) (by simp) ?_; refine (AllReadyH.cons rfl (fun K hK => ?_) AllReadyH.nil)
    refine wp_app2 apV (.tmp 11) (.tmp 13) rfl (w.alloc (.cells #[.int .i64 x1, .int .i64 x2, .int .i64 x3] 41)).heap.size (by rfl) (by rfl) (own_below O1.out (Ba (Below.refl _ _) _)) rfl (sl_lit (enc := encV) (cs := #[.int .i64 x1, .int .i64 x2, .int .i64 x3]) (t := 41) [(x1, x2, x3)] (by simp) rfl (by unfold maxLen; simp)) (by have := HDL.out; simp; omega) ((And.left (by assumption) : RowKit.Below (w.alloc (.cells #[.int .i64 x1, .int .i64 x2, .int .i64 x3] 41)).heap.size (w.alloc (.cells #[.int .i64 x1, .int .i64 x2, .int .i64 x3] 41)) _).size) ?_; intro va wa hown hgrow hat hnil; have hba := grownB (And.left (by assumption)) (own_below O1.out (Ba (Below.refl _ _) _)) hgrow; refine hK.out _ _ (keepOfB hba) (fun hHeld => ?_); clear hK K; (try simp only [Act.put, List.getElem_toArray, List.getElem_cons_succ, List.getElem_cons_zero, List.setIfInBounds_toArray, List.set_cons_zero, List.set_cons_succ])
    refine wpAnyH_ready (rs := [7]) (by kernel_rfl) (by simp) ?_; refine (AllReadyH.cons rfl (fun K hK => ?_) AllReadyH.nil)
    go_simp; refine (CR.out _ _ (row_sl lenV hown rfl)).mono ?_; rintro e w1 ⟨⟨v2, rfl, hs2⟩, hb1⟩; refine hK.out _ _ (keepB (by assumption) hb1) (fun hHeld => ?_); clear hK K; (try simp only [Act.put, List.getElem_toArray, List.getElem_cons_succ, List.getElem_cons_zero, List.setIfInBounds_toArray, List.set_cons_zero, List.set_cons_succ]); have S2 := Lib.hid hs2; clear hs2
    (refine wpAnyH_take (i := 8) (v := ?_) rfl (by kernel_rfl) (by kernel_rfl) (by kernel_rfl) (fun _ _ _ h => h) (Or.inl ⟨by rfl, ?rt⟩) (by assumption) ?_; case rt => (intro w hSw; (try dsimp only at hSw); go_simp; (try with_reducible rfl))); (try simp only [Act.put, List.getElem_toArray, List.getElem_cons_succ, List.getElem_cons_zero, List.setIfInBounds_toArray, List.set_cons_zero, List.set_cons_succ])
    (refine wpAnyH_take (i := 9) (v := ?_) rfl (by kernel_rfl) (by kernel_rfl) (by kernel_rfl) (fun _ _ _ h => h) (Or.inl ⟨by rfl, ?rt⟩) (by assumption) ?_; case rt => (intro w hSw; (try dsimp only at hSw); go_simp; (try with_reducible rfl))); (try simp only [Act.put, List.getElem_toArray, List.getElem_cons_succ, List.getElem_cons_zero, List.setIfInBounds_toArray, List.set_cons_zero, List.set_cons_succ])
    (refine wpAnyH_take (i := 10) (v := ?_) rfl (by kernel_rfl) (by kernel_rfl) (by kernel_rfl) (fun _ _ _ h => h) (Or.inl ⟨by rfl, ?rt⟩) (by assumption) ?_; case rt => (intro w hSw; (try dsimp only at hSw); go_simp; (try with_reducible rfl))); (try simp only [Act.put, List.getElem_toArray, List.getElem_cons_succ, List.getElem_cons_zero, List.setIfInBounds_toArray, List.set_cons_zero, List.set_cons_succ])
    (refine wpAnyH_take (i := 11) (v := ?_) rfl (by kernel_rfl) (by kernel_rfl) (by kernel_rfl) (fun _ _ _ h => h) (Or.inl ⟨by rfl, ?rt⟩) (by assumption) ?_; case rt => (intro w hSw; (try dsimp only at hSw); go_simp; (try with_reducible rfl))); (try simp only [Act.put, List.getElem_toArray, List.getElem_cons_succ, List.getElem_cons_zero, List.setIfInBounds_toArray, List.set_cons_zero, List.set_cons_succ])
    (refine wpAnyH_take (i := 12) (v := ?_) rfl (by kernel_rfl) (by kernel_rfl) (by kernel_rfl) (fun _ _ _ h => h) (Or.inl ⟨by rfl, ?rt⟩) (by assumption) ?_; case rt => (intro w hSw; (try dsimp only at hSw); go_simp; (try with_reducible rfl))); (try simp only [Act.put, List.getElem_toArray, List.getElem_cons_succ, List.getElem_cons_zero, List.setIfInBounds_toArray, List.set_cons_zero, List.set_cons_succ])
    refine wpAnyH_done (by kernel_rfl) ?_ _
    go_wp2
    go_ret
    exact ⟨⟨v2, rfl, S2.out⟩, Bt (Ba (Below.refl _ w) _) (And.left (by assumption))⟩
  · go_simp; refine hK.out _ _ (keepA (by assumption) _) (fun hHeld => ?_); clear hK K; (try simp only [Act.put, List.getElem_toArray, List.getElem_cons_succ, List.getElem_cons_zero, List.setIfInBounds_toArray, List.set_cons_zero, List.set_cons_succ])
    refine wpAnyH_ready (rs := [3]) (by kernel_rfl) (by simp) ?_; refine (AllReadyH.cons rfl (fun K hK => ?_) AllReadyH.nil)
    go_simp; refine (CD.out _ (And.left (by assumption))).mono ?_; rintro e w1 ⟨⟨v1, rfl, ho1⟩, hb1⟩; refine hK.out _ _ (keepB (by assumption) hb1) (fun hHeld => ?_); clear hK K; (try simp only [Act.put, List.getElem_toArray, List.getElem_cons_succ, List.getElem_cons_zero, List.setIfInBounds_toArray, List.set_cons_zero, List.set_cons_succ]); have O1 := Lib.hid ho1; have BC := Lib.hid hb1; clear ho1 hb1
    refine wpAnyH_ready (rs := [6]) (by kernel_rfl) (by simp) ?_; refine (AllReadyH.cons rfl (fun K hK => ?_) AllReadyH.nil)
    refine wp_app2 apV (.tmp 11) (.tmp 13) rfl (w.alloc (.cells #[.int .i64 x1, .int .i64 x2, .int .i64 x3] 41)).heap.size (by rfl) (by rfl) (O1.out) rfl (Sl.below (Sl.below (sl_lit (enc := encV) (w := w.alloc (.cells #[.int .i64 x1, .int .i64 x2, .int .i64 x3] 41)) (cs := #[.int .i64 x1, .int .i64 x2, .int .i64 x3]) (t := 41) (b := w.heap.size + 1) [(x1, x2, x3)] (by simp) rfl (by unfold maxLen; simp)) (Bd (Below.refl _ _))) BC.out) (by have := HDL.out; simp; omega) ((And.left (by assumption) : RowKit.Below (w.alloc (.cells #[.int .i64 x1, .int .i64 x2, .int .i64 x3] 41)).heap.size (w.alloc (.cells #[.int .i64 x1, .int .i64 x2, .int .i64 x3] 41)) _).size) ?_; intro va wa hown hgrow hat hnil; have hba := grownB (And.left (by assumption)) (O1.out) hgrow; refine hK.out _ _ (keepOfB hba) (fun hHeld => ?_); clear hK K; (try simp only [Act.put, List.getElem_toArray, List.getElem_cons_succ, List.getElem_cons_zero, List.setIfInBounds_toArray, List.set_cons_zero, List.set_cons_succ])
    refine wpAnyH_ready (rs := [7]) (by kernel_rfl) (by simp) ?_; refine (AllReadyH.cons rfl (fun K hK => ?_) AllReadyH.nil)
    go_simp; refine (CR.out _ _ (row_sl lenV hown rfl)).mono ?_; rintro e w1 ⟨⟨v2, rfl, hs2⟩, hb1⟩; refine hK.out _ _ (keepB (by assumption) hb1) (fun hHeld => ?_); clear hK K; (try simp only [Act.put, List.getElem_toArray, List.getElem_cons_succ, List.getElem_cons_zero, List.setIfInBounds_toArray, List.set_cons_zero, List.set_cons_succ]); have S2 := Lib.hid hs2; clear hs2
    (refine wpAnyH_take (i := 8) (v := ?_) rfl (by kernel_rfl) (by kernel_rfl) (by kernel_rfl) (fun _ _ _ h => h) (Or.inl ⟨by rfl, ?rt⟩) (by assumption) ?_; case rt => (intro w hSw; (try dsimp only at hSw); go_simp; (try with_reducible rfl))); (try simp only [Act.put, List.getElem_toArray, List.getElem_cons_succ, List.getElem_cons_zero, List.setIfInBounds_toArray, List.set_cons_zero, List.set_cons_succ])
    (refine wpAnyH_take (i := 9) (v := ?_) rfl (by kernel_rfl) (by kernel_rfl) (by kernel_rfl) (fun _ _ _ h => h) (Or.inl ⟨by rfl, ?rt⟩) (by assumption) ?_; case rt => (intro w hSw; (try dsimp only at hSw); go_simp; (try with_reducible rfl))); (try simp only [Act.put, List.getElem_toArray, List.getElem_cons_succ, List.getElem_cons_zero, List.setIfInBounds_toArray, List.set_cons_zero, List.set_cons_succ])
    (refine wpAnyH_take (i := 10) (v := ?_) rfl (by kernel_rfl) (by kernel_rfl) (by kernel_rfl) (fun _ _ _ h => h) (Or.inl ⟨by rfl, ?rt⟩) (by assumption) ?_; case rt => (intro w hSw; (try dsimp only at hSw); go_simp; (try with_reducible rfl))); (try simp only [Act.put, List.getElem_toArray, List.getElem_cons_succ, List.getElem_cons_zero, List.setIfInBounds_toArray, List.set_cons_zero, List.set_cons_succ])
    (refine wpAnyH_take (i := 11) (v := ?_) rfl (by kernel_rfl) (by kernel_rfl) (by kernel_rfl) (fun _ _ _ h => h) (Or.inl ⟨by rfl, ?rt⟩) (by assumption) ?_; case rt => (intro w hSw; (try dsimp only at hSw); go_simp; (try with_reducible rfl))); (try simp only [Act.put, List.getElem_toArray, List.getElem_cons_succ, List.getElem_cons_zero, List.setIfInBounds_toArray, List.set_cons_zero, List.set_cons_succ])
    (refine wpAnyH_take (i := 12) (v := ?_) rfl (by kernel_rfl) (by kernel_rfl) (by kernel_rfl) (fun _ _ _ h => h) (Or.inl ⟨by rfl, ?rt⟩) (by assumption) ?_; case rt => (intro w hSw; (try dsimp only at hSw); go_simp; (try with_reducible rfl))); (try simp only [Act.put, List.getElem_toArray, List.getElem_cons_succ, List.getElem_cons_zero, List.setIfInBounds_toArray, List.set_cons_zero, List.set_cons_succ])
    refine wpAnyH_done (by kernel_rfl) ?_ _
    go_wp2
    go_ret
    exact ⟨⟨v2, rfl, S2.out⟩, Bt (Ba (Below.refl _ w) _) (And.left (by assumption))⟩
end Go.Proofs.YtknfmjjlfhfocaaDoor
