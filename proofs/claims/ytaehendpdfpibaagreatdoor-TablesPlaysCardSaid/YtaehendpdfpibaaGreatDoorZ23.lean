import Derived.Test.YtaehendpdfpibaaGreatDoorZ4
import Derived.Test.YtaehendpdfpibaaGreatDoorZ7
import Derived.Test.YtaehendpdfpibaaGreatDoorZ2
import Derived.Test.YtaehendpdfpibaaGreatDoorZ8
import Derived.Test.YtaehendpdfpibaaGreatDoorZ12

/-
  The reference's Put (written by mkvv.py).
-/
namespace Go.Proofs.YtaehendpdfpibaaGreatDoor
set_option linter.unusedSimpArgs false
set_option linter.unusedVariables false
open Go.RowKit Go.Sort Go.Lib Go.Shelf

theorem keepOfB {W0 w' : World} (h : RowKit.Below W0.heap.size W0 w') : RowKit.Below W0.heap.size W0 w' ∧ ∀ b o, b < W0.heap.size → w'.cell? ⟨b, o, none⟩ = W0.cell? ⟨b, o, none⟩ := ⟨h, fun b o hl => h.cell (p := ⟨b, o, none⟩) hl⟩
theorem own_mono {w : World} {b b' et k n : Nat} {v : Value} {xs : List Value} (h : w.ownsRow b et k v n xs) (hb : b' ≤ b) : w.ownsRow b' et k v n xs := by
  refine ⟨h.1, ?_⟩
  rcases h.2 with h | ⟨g, cap, cur, e, hg, r⟩
  · exact .inl h
  · exact .inr ⟨g, cap, cur, e, by omega, r⟩
theorem own_below {w w' : World} {b et k n : Nat} {v : Value} {xs : List Value} (h : w.ownsRow b et k v n xs) (hb : RowKit.Below w.heap.size w w') : w'.ownsRow b et k v n xs := row_keep h (fun g hg => hb.block g (row_lt h hg))

set_option maxHeartbeats 4000000 in
set_option maxRecDepth 100000 in
theorem rput_call (l : List Vl) (v : Value) (x1 x2 x3 : Int) (w : World) (hl : Sl encV w v l) (hr : RightV l) (hx : chk (x1, x2, x3) = 0) (hlen : l.length ≤ 1000) :
    Calls Tryz.prog 90 #[v, .agg #[.int .i64 x1, .int .i64 x2, .int .i64 x3]] w fun e w' => (∃ v', e = .returned v' ∧ Sl encV w' v' (putV l (x1, x2, x3))) ∧ RowKit.Below w.heap.size w w' := by
  have hsz : (w.alloc (.cells #[.int .i64 x1, .int .i64 x2, .int .i64 x3] 34)).heap.size = w.heap.size + 1 := by simp
  have HS := Lib.hid (hl.below (Ba (Below.refl _ w) (.cells #[.int .i64 x1, .int .i64 x2, .int .i64 x3] 34)))
  obtain ⟨D, hD⟩ : ∃ D, D = dropV l x1 := ⟨_, rfl⟩
  have hDl : D.length ≤ l.length := by rw [hD]; exact List.length_filter_le _ _
  obtain ⟨PL, hPL⟩ : ∃ PL, PL = putV l (x1, x2, x3) := ⟨_, rfl⟩
  have hrow : rowL (D ++ [(x1, x2, x3)]) = PL := by rw [hD, hPL]; exact putV_ref hr hx
  obtain ⟨n, hn⟩ : ∃ n, n = rowN (D ++ [(x1, x2, x3)]) := ⟨_, rfl⟩
  have CD : Hid (∀ W, RowKit.Below (w.alloc (.cells #[.int .i64 x1, .int .i64 x2, .int .i64 x3] 34)).heap.size (w.alloc (.cells #[.int .i64 x1, .int .i64 x2, .int .i64 x3] 34)) W → Calls Tryz.prog 94 #[v, .int .i64 x1] W fun e w' => (∃ v', e = .returned v' ∧ w'.ownsRow (w.alloc (.cells #[.int .i64 x1, .int .i64 x2, .int .i64 x3] 34)).heap.size 34 3 v' D.length (flat encV D)) ∧ RowKit.Below W.heap.size W w') := fun W h => (rdrop_call l v x1 W (HS.out.below h) (by omega)).mono fun e w' ⟨v', h1, h2, h3⟩ => ⟨⟨v', h1, by rw [hD]; exact own_mono h2 h.size⟩, h3⟩
  have CR : Hid (∀ W va, Sl encV W va (D ++ [(x1, x2, x3)]) → Calls Tryz.prog 134 #[va] W fun e w' => (∃ v', e = .returned (.tuple #[v', .int .i64 n]) ∧ Sl encV w' v' PL) ∧ RowKit.Below W.heap.size W w') := fun W va h => by
    have := rrow_call (D ++ [(x1, x2, x3)]) va W h (by simp; omega)
    rwa [hrow, ← hn] at this
  rw [← hPL]
  have HDL := Lib.hid hDl
  clear hl hr hx hD hPL hrow hn hDl
  go_enter Tryz.func90, Tryz.ntmps90
  go_wp2_with fail
  refine wp_region_held_drew (S := (fun w' => Below (w.alloc (.cells #[.int .i64 x1, .int .i64 x2, .int .i64 x3] 34)).heap.size (w.alloc (.cells #[.int .i64 x1, .int .i64 x2, .int .i64 x3] 34)) w' ∧ ∀ b_1 o, b_1 < (w.alloc (.cells #[.int .i64 x1, .int .i64 x2, .int .i64 x3] 34)).heap.size → w'.cell? ⟨b_1, o, none⟩ = (w.alloc (.cells #[.int .i64 x1, .int .i64 x2, .int .i64 x3] 34)).cell? ⟨b_1, o, none⟩)) (by kernel_rfl) (keep0 _) (fun hHeld => ?_)
  (refine wpAnyH_take (i := 0) (v := ?_) rfl (by kernel_rfl) (by kernel_rfl) (by kernel_rfl) (fun _ _ _ h => h) (Or.inl ⟨by rfl, ?rt⟩) (by assumption) ?_; case rt => (intro w hSw; (try dsimp only at hSw); go_simp; (try with_reducible rfl))); (try simp only [Act.put, List.getElem_toArray, List.getElem_cons_succ, List.getElem_cons_zero, List.setIfInBounds_toArray, List.set_cons_zero, List.set_cons_succ])
  (refine wpAnyH_take (i := 1) (v := ?_) rfl (by kernel_rfl) (by kernel_rfl) (by kernel_rfl) (fun _ _ _ h => h) (Or.inl ⟨by rfl, ?rt⟩) (by assumption) ?_; case rt => (intro w hSw; (try dsimp only at hSw); go_simp; (try with_reducible rfl))); (try simp only [Act.put, List.getElem_toArray, List.getElem_cons_succ, List.getElem_cons_zero, List.setIfInBounds_toArray, List.set_cons_zero, List.set_cons_succ])
  (refine wpAnyH_take (i := 2) (v := ?_) rfl (by kernel_rfl) (by kernel_rfl) (by kernel_rfl) (fun _ _ _ h => h) (Or.inl ⟨by rfl, ?rt⟩) (by assumption) ?_; case rt => (intro w hSw; (try dsimp only at hSw); go_simp; (try with_reducible rfl))); (try simp only [Act.put, List.getElem_toArray, List.getElem_cons_succ, List.getElem_cons_zero, List.setIfInBounds_toArray, List.set_cons_zero, List.set_cons_succ])
  (refine wpAnyH_take (i := 4) (v := ?_) rfl (by kernel_rfl) (by kernel_rfl) (by kernel_rfl) (fun _ _ _ h => h) (Or.inl ⟨by rfl, ?rt⟩) (by assumption) ?_; case rt => (intro w hSw; (try dsimp only at hSw); go_simp; (try with_reducible rfl))); (try simp only [Act.put, List.getElem_toArray, List.getElem_cons_succ, List.getElem_cons_zero, List.setIfInBounds_toArray, List.set_cons_zero, List.set_cons_succ])
  refine wpAnyH_ready (rs := [3, 5]) (by kernel_rfl) (by simp) ?_; refine (AllReadyH.cons rfl (fun K hK => ?_) (AllReadyH.cons rfl (fun K hK => ?_) AllReadyH.nil))
  · go_simp; refine (CD.out _ (And.left (by assumption))).mono ?_; rintro e w1 ⟨⟨v1, rfl, ho1⟩, hb1⟩; refine hK.out _ _ (keepB (by assumption) hb1) (fun hHeld => ?_); clear hK K; (try simp only [Act.put, List.getElem_toArray, List.getElem_cons_succ, List.getElem_cons_zero, List.setIfInBounds_toArray, List.set_cons_zero, List.set_cons_succ]); have O1 := Lib.hid ho1; have BC := Lib.hid hb1; clear ho1 hb1
    refine wpAnyH_ready (rs := [5]) (by kernel_rfl) (by simp) ?_; refine (AllReadyH.cons rfl (fun K hK => ?_) AllReadyH.nil)
    go_simp; refine hK.out _ _ (keepA (by assumption) _) (fun hHeld => ?_); clear hK K; (try simp only [Act.put, List.getElem_toArray, List.getElem_cons_succ, List.getElem_cons_zero, List.setIfInBounds_toArray, List.set_cons_zero, List.set_cons_succ])
    refine wpAnyH_ready (rs := [6]) (by kernel_rfl) (by simp) ?_; refine (AllReadyH.cons rfl (fun K hK => ?_) AllReadyH.nil)
    refine wp_app2 apV (.tmp 11) (.tmp 13) rfl (w.alloc (.cells #[.int .i64 x1, .int .i64 x2, .int .i64 x3] 34)).heap.size (by rfl) (by rfl) (own_below O1.out (Ba (Below.refl _ _) _)) rfl (sl_lit (enc := encV) (cs := #[.int .i64 x1, .int .i64 x2, .int .i64 x3]) (t := 34) [(x1, x2, x3)] (by simp) rfl (by unfold maxLen; simp)) (by have := HDL.out; simp; omega) ((And.left (by assumption) : RowKit.Below (w.alloc (.cells #[.int .i64 x1, .int .i64 x2, .int .i64 x3] 34)).heap.size (w.alloc (.cells #[.int .i64 x1, .int .i64 x2, .int .i64 x3] 34)) _).size) ?_; intro va wa hown hgrow hat hnil; have hba := grownB (And.left (by assumption)) (own_below O1.out (Ba (Below.refl _ _) _)) hgrow; refine hK.out _ _ (keepOfB hba) (fun hHeld => ?_); clear hK K; (try simp only [Act.put, List.getElem_toArray, List.getElem_cons_succ, List.getElem_cons_zero, List.setIfInBounds_toArray, List.set_cons_zero, List.set_cons_succ])
    refine wpAnyH_ready (rs := [7]) (by kernel_rfl) (by simp) ?_; refine (AllReadyH.cons rfl (fun K hK => ?_) AllReadyH.nil)
    go_simp; refine (CR.out _ _ (row_sl lenV hown rfl)).mono ?_; rintro e w1 ⟨⟨v2, rfl, hs2⟩, hb1⟩; refine hK.out _ _ (keepB (by assumption) hb1) (fun hHeld => ?_); clear hK K; (try simp only [Act.put, List.getElem_toArray, List.getElem_cons_succ, List.getElem_cons_zero, List.setIfInBounds_toArray, List.set_cons_zero, List.set_cons_succ]); have S2 := Lib.hid hs2; clear hs2
    (refine wpAnyH_take (i := 8) (v := ?_) rfl (by kernel_rfl) (by kernel_rfl) (by kernel_rfl) (fun _ _ _ h => h) (Or.inl ⟨by rfl, ?rt⟩) (by assumption) ?_; case rt => (intro w hSw; (try dsimp only at hSw); go_simp; (try with_reducible rfl))); (try simp only [Act.put, List.getElem_toArray, List.getElem_cons_succ, List.getElem_cons_zero, List.setIfInBounds_toArray, List.set_cons_zero, List.set_cons_succ])
    (refine wpAnyH_take (i := 9) (v := ?_) rfl (by kernel_rfl) (by kernel_rfl) (by kernel_rfl) (fun _ _ _ h => h) (Or.inl ⟨by rfl, ?rt⟩) (by assumption) ?_; case rt => (intro w hSw; (try dsimp only at hSw); go_simp; (try with_reducible rfl))); (try simp only [Act.put, List.getElem_toArray, List.getElem_cons_succ, List.getElem_cons_zero, List.setIfInBounds_toArray, List.set_cons_zero, List.set_cons_succ])
    (refine wpAnyH_take (i := 10) (v := ?_) rfl (by kernel_rfl) (by kernel_rfl) (by kernel_rfl) (fun _ _ _ h => h) (Or.inl ⟨by rfl, ?rt⟩) (by assumption) ?_; case rt => (intro w hSw; (try dsimp only at hSw); go_simp; (try with_reducible rfl))); (try simp only [Act.put, List.getElem_toArray, List.getElem_cons_succ, List.getElem_cons_zero, List.setIfInBounds_toArray, List.set_cons_zero, List.set_cons_succ])
    (refine wpAnyH_take (i := 11) (v := ?_) rfl (by kernel_rfl) (by kernel_rfl) (by kernel_rfl) (fun _ _ _ h => h) (Or.inl ⟨by rfl, ?rt⟩) (by assumption) ?_; case rt => (intro w hSw; (try dsimp only at hSw); go_simp; (try with_reducible rfl))); (try simp only [Act.put, List.getElem_toArray, List.getElem_cons_succ, List.getElem_cons_zero, List.setIfInBounds_toArray, List.set_cons_zero, List.set_cons_succ])
    (refine wpAnyH_take (i := 12) (v := ?_) rfl (by kernel_rfl) (by kernel_rfl) (by kernel_rfl) (fun _ _ _ h => h) (Or.inl ⟨by rfl, ?rt⟩) (by assumption) ?_; case rt => (intro w hSw; (try dsimp only at hSw); go_simp; (try with_reducible rfl))); (try simp only [Act.put, List.getElem_toArray, List.getElem_cons_succ, List.getElem_cons_zero, List.setIfInBounds_toArray, List.set_cons_zero, List.set_cons_succ])
    refine wpAnyH_done (by kernel_rfl) ?_ _
    go_wp2
    go_ret
    exact ⟨⟨v2, rfl, S2.out⟩, Bt (Ba (Below.refl _ w) _) (And.left (by assumption))⟩
  · go_simp; refine hK.out _ _ (keepA (by assumption) _) (fun hHeld => ?_); clear hK K; (try simp only [Act.put, List.getElem_toArray, List.getElem_cons_succ, List.getElem_cons_zero, List.setIfInBounds_toArray, List.set_cons_zero, List.set_cons_succ])
    refine wpAnyH_ready (rs := [3]) (by kernel_rfl) (by simp) ?_; refine (AllReadyH.cons rfl (fun K hK => ?_) AllReadyH.nil)
    go_simp; refine (CD.out _ (And.left (by assumption))).mono ?_; rintro e w1 ⟨⟨v1, rfl, ho1⟩, hb1⟩; refine hK.out _ _ (keepB (by assumption) hb1) (fun hHeld => ?_); clear hK K; (try simp only [Act.put, List.getElem_toArray, List.getElem_cons_succ, List.getElem_cons_zero, List.setIfInBounds_toArray, List.set_cons_zero, List.set_cons_succ]); have O1 := Lib.hid ho1; have BC := Lib.hid hb1; clear ho1 hb1
    refine wpAnyH_ready (rs := [6]) (by kernel_rfl) (by simp) ?_; refine (AllReadyH.cons rfl (fun K hK => ?_) AllReadyH.nil)
    refine wp_app2 apV (.tmp 11) (.tmp 13) rfl (w.alloc (.cells #[.int .i64 x1, .int .i64 x2, .int .i64 x3] 34)).heap.size (by rfl) (by rfl) (O1.out) rfl (Sl.below (Sl.below (sl_lit (enc := encV) (w := w.alloc (.cells #[.int .i64 x1, .int .i64 x2, .int .i64 x3] 34)) (cs := #[.int .i64 x1, .int .i64 x2, .int .i64 x3]) (t := 34) (b := w.heap.size + 1) [(x1, x2, x3)] (by simp) rfl (by unfold maxLen; simp)) (Bd (Below.refl _ _))) BC.out) (by have := HDL.out; simp; omega) ((And.left (by assumption) : RowKit.Below (w.alloc (.cells #[.int .i64 x1, .int .i64 x2, .int .i64 x3] 34)).heap.size (w.alloc (.cells #[.int .i64 x1, .int .i64 x2, .int .i64 x3] 34)) _).size) ?_; intro va wa hown hgrow hat hnil; have hba := grownB (And.left (by assumption)) (O1.out) hgrow; refine hK.out _ _ (keepOfB hba) (fun hHeld => ?_); clear hK K; (try simp only [Act.put, List.getElem_toArray, List.getElem_cons_succ, List.getElem_cons_zero, List.setIfInBounds_toArray, List.set_cons_zero, List.set_cons_succ])
    refine wpAnyH_ready (rs := [7]) (by kernel_rfl) (by simp) ?_; refine (AllReadyH.cons rfl (fun K hK => ?_) AllReadyH.nil)
    go_simp; refine (CR.out _ _ (row_sl lenV hown rfl)).mono ?_; rintro e w1 ⟨⟨v2, rfl, hs2⟩, hb1⟩; refine hK.out _ _ (keepB (by assumption) hb1) (fun hHeld => ?_); clear hK K; (try simp only [Act.put, List.getElem_toArray, List.getElem_cons_succ, List.getElem_cons_zero, List.setIfInBounds_toArray, List.set_cons_zero, List.set_cons_succ]); have S2 := Lib.hid hs2; clear hs2
    (refine wpAnyH_take (i := 8) (v := ?_) rfl (by kernel_rfl) (by kernel_rfl) (by kernel_rfl) (fun _ _ _ h => h) (Or.inl ⟨by rfl, ?rt⟩) (by assumption) ?_; case rt => (intro w hSw; (try dsimp only at hSw); go_simp; (try with_reducible rfl))); (try simp only [Act.put, List.getElem_toArray, List.getElem_cons_succ, List.getElem_cons_zero, List.setIfInBounds_toArray, List.set_cons_zero, List.set_cons_succ])
    (refine wpAnyH_take (i := 9) (v := ?_) rfl (by kernel_rfl) (by kernel_rfl) (by kernel_rfl) (fun _ _ _ h => h) (Or.inl ⟨by rfl, ?rt⟩) (by assumption) ?_; case rt => (intro w hSw; (try dsimp only at hSw); go_simp; (try with_reducible rfl))); (try simp only [Act.put, List.getElem_toArray, List.getElem_cons_succ, List.getElem_cons_zero, List.setIfInBounds_toArray, List.set_cons_zero, List.set_cons_succ])
    (refine wpAnyH_take (i := 10) (v := ?_) rfl (by kernel_rfl) (by kernel_rfl) (by kernel_rfl) (fun _ _ _ h => h) (Or.inl ⟨by rfl, ?rt⟩) (by assumption) ?_; case rt => (intro w hSw; (try dsimp only at hSw); go_simp; (try with_reducible rfl))); (try simp only [Act.put, List.getElem_toArray, List.getElem_cons_succ, List.getElem_cons_zero, List.setIfInBounds_toArray, List.set_cons_zero, List.set_cons_succ])
    (refine wpAnyH_take (i := 11) (v := ?_) rfl (by kernel_rfl) (by kernel_rfl) (by kernel_rfl) (fun _ _ _ h => h) (Or.inl ⟨by rfl, ?rt⟩) (by assumption) ?_; case rt => (intro w hSw; (try dsimp only at hSw); go_simp; (try with_reducible rfl))); (try simp only [Act.put, List.getElem_toArray, List.getElem_cons_succ, List.getElem_cons_zero, List.setIfInBounds_toArray, List.set_cons_zero, List.set_cons_succ])
    (refine wpAnyH_take (i := 12) (v := ?_) rfl (by kernel_rfl) (by kernel_rfl) (by kernel_rfl) (fun _ _ _ h => h) (Or.inl ⟨by rfl, ?rt⟩) (by assumption) ?_; case rt => (intro w hSw; (try dsimp only at hSw); go_simp; (try with_reducible rfl))); (try simp only [Act.put, List.getElem_toArray, List.getElem_cons_succ, List.getElem_cons_zero, List.setIfInBounds_toArray, List.set_cons_zero, List.set_cons_succ])
    refine wpAnyH_done (by kernel_rfl) ?_ _
    go_wp2
    go_ret
    exact ⟨⟨v2, rfl, S2.out⟩, Bt (Ba (Below.refl _ w) _) (And.left (by assumption))⟩
end Go.Proofs.YtaehendpdfpibaaGreatDoor

/-
  The reference's table in memory: its rows of entities, each with a slice of its own; Has, Get, Same.
-/
namespace Go.Proofs.YtaehendpdfpibaaGreatDoor
set_option linter.unusedSimpArgs false
set_option linter.unusedVariables false
open Go.RowKit Go.Sort Go.Lib Go.Shelf

/-- A slice's parts. -/
abbrev Sp := Option Addr × Nat × Nat
def slV (s : Sp) : Value := .slice s.1 s.2.1 s.2.2
abbrev Rw := Hd × Sp
def encE (x : Rw) : List Value := [.int .i64 x.1.1, .int .i64 x.1.2, slV x.2]
theorem lenE (x : Rw) : (encE x).length = 3 := rfl
theorem oneE (x : Rw) : ∀ v ∈ encE x, v.oneCell' = true := fun v hv => by simp [encE, slV] at hv; rcases hv with rfl | rfl | rfl <;> rfl
theorem apE : Ap encE 27 38 3 (.agg #[.int .i64 0, .int .i64 0, .slice none 0 0]) 40 :=
  ⟨Tryz.underlying27, info_parts (by kernel_rfl), by decide, by decide, by decide, lenE, oneE⟩
section
variable {w w' : World} {N X : Nat → Prop} {pr q : Nat} {R : List En}
theorem rowEn {w : World} {base g n cap : Nat} {l : List Rw} (h : w.ownsRow base 38 3 (.slice (some ⟨g, 0, none⟩) n cap) n (flat encE l)) {i : Nat} (hi : i < l.length) :
    (w.cell? ⟨g, i * 3, none⟩ = some (.int .i64 l[i]!.1.1) ∧ w.cell? ⟨g, i * 3 + 1, none⟩ = some (.int .i64 l[i]!.1.2) ∧ w.cell? ⟨g, i * 3 + 2, none⟩ = some (slV l[i]!.2)) ∧ w.frozen? ⟨g, i * 3, none⟩ = false ∧ w.frozen? ⟨g, i * 3 + 1, none⟩ = false ∧ w.frozen? ⟨g, i * 3 + 2, none⟩ = false :=
  ⟨⟨row_cellsK lenE h hi 0 _ rfl, row_cellsK lenE h hi 1 _ rfl, row_cellsK lenE h hi 2 _ rfl⟩, h.frozenAt _, h.frozenAt _, h.frozenAt _⟩
end
set_option maxHeartbeats 2000000 in
theorem rsame_call (h1 h2 k1 k2 : Int) (la lb : List Vl) (va vb : Value) (w : World) (ha : Sl encV w va la) (hb : Sl encV w vb lb) :
    Calls Tryz.prog 47 #[.agg #[.int .i64 h1, .int .i64 h2, va], .agg #[.int .i64 k1, .int .i64 k2, vb]] w fun e w' => e = .returned (.bool (decide ((h1, h2) = (k1, k2)) && decide (la = lb))) ∧ Gr w w' := by
  have FS : Hid (∀ W, RowKit.Below w.heap.size w W → Calls Tryz.prog 45 #[va, vb] W fun e w' => e = .returned (.bool (decide (la = lb))) ∧ Gr W w') := fun W h => same_call la lb va vb W (ha.below h) (hb.below h)
  obtain ⟨pa, ca, rfl, _, _, _⟩ := ha
  obtain ⟨pb, cb, rfl, _, _, _⟩ := hb
  generalize la.length = na at *
  generalize lb.length = nb at *
  generalize decide (la = lb) = sb at *
  have eq1 := eqH_run
  have gd1 := gdH_run
  by_cases hh : (h1, h2) = (k1, k2)
  · have hd : decide ((h1, h2) = (k1, k2)) = true := decide_eq_true hh
    have hd2 := Lib.hid hd
    simp only [hd, Bool.true_and]
    simp only [Prod.mk.injEq] at hh
    obtain ⟨rfl, rfl⟩ := hh
    clear hd hd2
    go_enter Tryz.func47, Tryz.ntmps47
    go_wp2_with fail
    refine (FS.out _ (Ba (Ba (Below.refl _ w) _) _)).mono ?_
    rintro e w1 ⟨rfl, hg1⟩
    go_wp2
    go_ret
    exact ⟨rfl, (by repeat (first | with_reducible exact Gr.refl _ | with_reducible assumption | with_reducible apply Gr.alloc | with_reducible apply Gr.drewN | with_reducible apply Gr.drew | with_reducible apply Gr.grow | (with_reducible refine Gr.trans ?_ (by assumption))))⟩
  · have hd : decide ((h1, h2) = (k1, k2)) = false := decide_eq_false hh
    have hd2 : (decide (h1 = k1 ∧ h2 = k2)) = false := decide_eq_false (fun e => hh (by rw [e.1, e.2]))
    simp only [hd, Bool.false_and]
    clear hh FS
    go_enter Tryz.func47, Tryz.ntmps47
    go_wp2
    go_ret
    exact ⟨rfl, (by repeat (first | with_reducible exact Gr.refl _ | with_reducible assumption | with_reducible apply Gr.alloc | with_reducible apply Gr.drewN | with_reducible apply Gr.drew | with_reducible apply Gr.grow | (with_reducible refine Gr.trans ?_ (by assumption))))⟩
end Go.Proofs.YtaehendpdfpibaaGreatDoor

/-
  The reference's store in memory: its rows of entities, each with a slice of its own; Find.
-/
namespace Go.Proofs.YtaehendpdfpibaaGreatDoor
set_option linter.unusedSimpArgs false
set_option linter.unusedVariables false
open Go.RowKit Go.Sort Go.Lib Go.Shelf

abbrev RsTy : Nat := 29
abbrev rsP (pr : Nat) : Value := .pointer (some ⟨pr, 0, none⟩)
/-- An entity and the slice of its components. -/
abbrev Zn := En × Sp
def encZ (z : Zn) : List Value := [.int .i64 z.1.1.1, .int .i64 z.1.1.2, slV z.2]
theorem lenZ (z : Zn) : (encZ z).length = 3 := rfl
theorem oneZ (z : Zn) : ∀ v ∈ encZ z, v.oneCell' = true := fun v hv => by simp [encZ, slV] at hv; rcases hv with rfl | rfl | rfl <;> rfl
theorem apZ : Ap encZ 27 38 3 (.agg #[.int .i64 0, .int .i64 0, .slice none 0 0]) 40 :=
  ⟨Tryz.underlying27, info_parts (by kernel_rfl), by decide, by decide, by decide, lenZ, oneZ⟩
theorem map_at {α β : Type} [Inhabited α] [Inhabited β] (f : α → β) (l : List α) {i : Nat} (h : i < l.length) : (l.map f)[i]! = f l[i]! := by
  rw [getElem!_pos (l.map f) i (by simpa using h), getElem!_pos l i h, List.getElem_map]
/-- A slice of entities that holds L, in blocks of N. -/
def LsE (w : World) (N : Nat → Prop) (vr : Value) (L : List En) : Prop :=
  ∃ Z : List Zn, SlN N encZ w vr Z ∧ Z.map Prod.fst = L ∧ ∀ z ∈ Z, SlN N encV w (slV z.2) z.1.2
/-- At pr is the reference's store of the entities L, in the blocks N. -/
def RefS (w : World) (N : Nat → Prop) (pr : Nat) (L : List En) : Prop :=
  ∃ (vr : Value) (N1 : Nat → Prop), w.heap[pr]? = some (.cells #[vr] RsTy (0, 0)) ∧ LsE w N1 vr L ∧ N pr ∧ (∀ b, N1 b → N b ∧ b ≠ pr) ∧ ∀ b, N b → b < w.heap.size
section
variable {w w' : World} {N N' X : Nat → Prop} {pr : Nat} {L : List En} {vr : Value}
theorem LsE.kept (h : LsE w N vr L) (t : Tch X w w') (hd : ∀ b, N b → ¬ X b) : LsE w' N vr L := by
  obtain ⟨Z, h1, h2, h3⟩ := h
  exact ⟨Z, h1.kept t hd, h2, fun z hz => (h3 z hz).kept t hd⟩
theorem LsE.below (h : LsE w N vr L) (t : RowKit.Below w.heap.size w w') : LsE w' N vr L := h.kept (X := fun _ => False) (Tch.of t) (fun _ _ e => e)
theorem LsE.mono (h : LsE w N vr L) (hN : ∀ b, N b → N' b) : LsE w N' vr L := by
  obtain ⟨Z, h1, h2, h3⟩ := h
  exact ⟨Z, h1.mono hN, h2, fun z hz => (h3 z hz).mono hN⟩
theorem LsE.form (h : LsE w N vr L) : ∃ p cap, vr = .slice p L.length cap ∧ L.length ≤ cap ∧ cap ≤ 9223372036854775807 := by
  obtain ⟨Z, ⟨p, cap, rfl, h4, h5, _⟩, rfl, h3⟩ := h
  unfold maxLen at h5
  exact ⟨p, cap, by rw [List.length_map], by rw [List.length_map]; omega, by omega⟩
/-- The i-th row's cells. -/
theorem LsE.at {p : Option Addr} {n cap : Nat} (h : LsE w N (.slice p n cap) L) {i : Nat} (hi : i < L.length) : ∃ g o sp c, p = some ⟨g, o, none⟩ ∧ g < w.heap.size ∧ N g ∧ w.cell? ⟨g, o + i * 3, none⟩ = some (.int .i64 L[i]!.1.1) ∧ w.cell? ⟨g, o + i * 3 + 1, none⟩ = some (.int .i64 L[i]!.1.2) ∧ w.cell? ⟨g, o + i * 3 + 2, none⟩ = some (.slice sp L[i]!.2.length c) ∧ SlN N encV w (.slice sp L[i]!.2.length c) L[i]!.2 ∧ L[i]!.2.length ≤ c ∧ c ≤ 9223372036854775807 := by
  obtain ⟨Z, ⟨p', cap', e', h4, h5, h6⟩, rfl, h3⟩ := h
  rw [List.length_map] at hi
  simp only [Value.slice.injEq] at e'
  obtain ⟨rfl, _, rfl⟩ := e'
  obtain ⟨g, o, rfl, hg, hn, hc⟩ := h6 (by omega)
  have d1 := sl_at lenZ hc hi 0 _ rfl
  have d2 := sl_at lenZ hc hi 1 _ rfl
  have d3 := sl_at lenZ hc hi 2 _ rfl
  have e2 := h3 _ (show Z[i]! ∈ Z by rw [getElem!_pos Z i hi]; exact List.getElem_mem _)
  rw [map_at Prod.fst Z hi]
  obtain ⟨sp, c, e3, e4, e5, _⟩ := id e2
  rw [e3] at d3 e2
  unfold maxLen at e5
  exact ⟨g, o, sp, c, rfl, hg, hn, d1, d2, d3, e2, e4, by omega⟩
theorem RefS.kept (h : RefS w N pr L) (t : Tch X w w') (hd : ∀ b, N b → ¬ X b) : RefS w' N pr L := by
  obtain ⟨vr, N1, h1, h2, h3, h4, h5⟩ := h
  exact ⟨vr, N1, t.blk h1 (hd _ h3), h2.kept t (fun b e => hd b (h4 b e).1), h3, h4, fun b e => Nat.lt_of_lt_of_le (h5 b e) t.size⟩
theorem RefS.below (h : RefS w N pr L) (t : RowKit.Below w.heap.size w w') : RefS w' N pr L := h.kept (X := fun _ => False) (Tch.of t) (fun _ _ e => e)
theorem RefS.lt (h : RefS w N pr L) : ∀ b, N b → b < w.heap.size := by
  obtain ⟨vr, N1, h1, h2, h3, h4, h5⟩ := h
  exact h5
theorem RefS.mono (h : RefS w N pr L) (hN : ∀ b, N b → N' b) (hl : ∀ b, N' b → b < w.heap.size) : RefS w N' pr L := by
  obtain ⟨vr, N1, h1, h2, h3, h4, h5⟩ := h
  exact ⟨vr, N1, h1, h2, hN _ h3, fun b e => ⟨hN b (h4 b e).1, (h4 b e).2⟩, hl⟩
/-- What a walk needs. -/
theorem RefS.open (h : RefS w N pr L) : ∃ p cap N1, w.heap[pr]? = some (.cells #[.slice p L.length cap] RsTy (0, 0)) ∧ LsE w N1 (.slice p L.length cap) L ∧ L.length ≤ cap ∧ cap ≤ 9223372036854775807 ∧ N pr ∧ (∀ b, N1 b → N b ∧ b ≠ pr) := by
  obtain ⟨vr, N1, h1, h2, h3, h4, h5⟩ := h
  obtain ⟨p, cap, rfl, h6, h7⟩ := h2.form
  exact ⟨p, cap, N1, h1, h2, h6, h7, h3, h4⟩
theorem one_cell {w : World} {b : Nat} {v : Value} {t : TypeId} (h : w.heap[b]? = some (.cells #[v] t (0, 0))) : w.cell? ⟨b, 0, none⟩ = some v ∧ w.frozen? ⟨b, 0, none⟩ = false := by
  simp [World.cell?, World.frozen?, h]
end

/-! ### Where an entity stands; pure. -/
def fixA : List En → Hd → Nat → Int
  | [], _, _ => -1
  | r :: L, h, k => if r.1 = h then (k : Int) else fixA L h (k + 1)
def fixE (L : List En) (h : Hd) : Int := fixA L h 0
theorem fndE_cons (r : En) (L : List En) (h : Hd) : fndE (r :: L) h = if r.1 = h then some r.2 else fndE L h := by
  unfold fndE
  by_cases e : r.1 = h
  · simp [List.find?_cons, e]
  · simp [List.find?_cons, e]
theorem fixA_none : ∀ (L : List En) (h : Hd) (k : Nat), fndE L h = none → fixA L h k = -1
  | [], _, _, _ => rfl
  | r :: L, h, k, e => by
    rw [fndE_cons] at e
    by_cases c : r.1 = h
    · rw [if_pos c] at e; cases e
    · rw [if_neg c] at e
      unfold fixA
      rw [if_neg c]
      exact fixA_none L h _ e
theorem fixA_some : ∀ (L : List En) (h : Hd) (l : List Vl) (k : Nat), fndE L h = some l → ∃ i : Nat, fixA L h k = ((k + i : Nat) : Int) ∧ i < L.length ∧ L[i]! = (h, l)
  | [], _, _, _, e => by simp [fndE] at e
  | r :: L, h, l, k, e => by
    rw [fndE_cons] at e
    unfold fixA
    by_cases c : r.1 = h
    · rw [if_pos c] at e ⊢
      refine ⟨0, rfl, by simp, ?_⟩
      rw [← Option.some.inj e, ← c]
      rfl
    · rw [if_neg c] at e ⊢
      obtain ⟨i, h1, h2, h3⟩ := fixA_some L h l (k + 1) e
      exact ⟨i + 1, by rw [h1]; congr 1; omega, by simp; omega, by simpa using h3⟩
theorem fixE_none {L : List En} {h : Hd} (e : fndE L h = none) : fixE L h = -1 := fixA_none L h 0 e
theorem fixE_some {L : List En} {h : Hd} {l : List Vl} (e : fndE L h = some l) : ∃ i : Nat, fixE L h = (i : Int) ∧ i < L.length ∧ L[i]! = (h, l) := by
  obtain ⟨i, h1, h2, h3⟩ := fixA_some L h l 0 e
  exact ⟨i, by unfold fixE; rw [h1, Nat.zero_add], h2, h3⟩
theorem fixA_step {L : List En} {h : Hd} {k : Nat} (hk : k < L.length) : fixA (L.drop k) h k = if L[k]!.1 = h then (k : Int) else fixA (L.drop (k + 1)) h (k + 1) := by
  rw [List.drop_eq_getElem_cons hk, getElem!_pos L k hk]
  rfl
theorem fixA_end {L : List En} {h : Hd} {k : Nat} (hk : L.length ≤ k) : fixA (L.drop k) h k = -1 := by
  rw [List.drop_eq_nil_of_le hk]
  rfl
theorem and_ne8 {a b c d : Int} (h : ¬ ((a, b) : Hd) = (c, d)) : (decide (a = c) && decide (b = d)) = false := by
  by_cases e : a = c
  · have f : ¬ b = d := fun f => h (by rw [e, f])
    simp [f]
  · simp [e]
section
variable {w w' : World} {N : Nat → Prop} {pr : Nat} {L : List En}
set_option maxHeartbeats 2000000 in
set_option maxRecDepth 100000 in
theorem rfindS (h : RefS w N pr L) (x1 x2 : Int) : Calls Tryz.prog 18 #[rsP pr, .agg #[.int .i64 x1, .int .i64 x2]] w fun e w' => e = .returned (.int .i64 (fixE L (x1, x2))) ∧ RowKit.Below w.heap.size w w' := by
  have eq1 := eqH_run
  have gd1 := gdH_run
  have bb := Ba (Below.refl _ w) (.cells #[.int .i64 x1, .int .i64 x2] 31)
  have B0 := Lib.hid bb
  obtain ⟨p, cap, N1, hb, hls, h1, h2, _, _⟩ := (h.below bb).open
  obtain ⟨c0, _⟩ := one_cell hb
  have hl := cell_lt c0
  have b0 := Lib.hid (heap_alloc_new w (.cells #[.int .i64 x1, .int .i64 x2] 31))
  have HL := Lib.hid hls
  have hLz : L.length ≤ 9223372036854775807 := by omega
  clear h hb bb hls
  go_enter Tryz.func18, Tryz.ntmps18
  go_wp2
  generalize hW : w.alloc (.cells #[.int .i64 x1, .int .i64 x2] 31) = W at *
  clear hW
  go_loopw [12] (fun s12 wr => ∃ k : Nat, s12 = .int .i64 k ∧ k ≤ L.length ∧ Hid (RowKit.Below W.heap.size W wr) ∧ Hid (fixA (L.drop k) (x1, x2) k = fixE L (x1, x2))) (fun i _ => L.length - (intOf i).toNat)
  case atStart => exact ⟨0, rfl, Nat.zero_le _, Lib.hid (Below.refl _ _), Lib.hid rfl⟩
  case round =>
    obtain ⟨k, rfl, hk, HB, HF⟩ := hrel
    by_cases hkn : k < L.length
    · have hkz : (k : Int) < (L.length : Int) := by omega
      have hst := fixA_step (h := (x1, x2)) hkn
      rw [HF.out] at hst
      have HST := Lib.hid hst
      obtain ⟨g, o, sp, c, rfl, hg, _, d1, d2, d3, _, hc1, hc2⟩ := HL.out.at hkn
      replace d1 := Bc HB.out hg d1
      replace d2 := Bc HB.out hg d2
      replace d3 := Bc HB.out hg d3
      have hgr : g < wr.heap.size := Nat.lt_of_lt_of_le hg HB.out.size
      obtain ⟨e0, e1, _, _⟩ := two_cells (blk_below b0.out HB.out)
      have hel := cell_lt e0
      generalize L[k]!.2.length = n2 at *
      generalize hy : L[k]!.1 = y at *
      obtain ⟨y1, y2⟩ := y
      dsimp only at d1 d2
      clear hst hy
      by_cases he : (y1, y2) = (x1, x2)
      · obtain ⟨rfl, rfl⟩ := Prod.mk.inj he
        clear he
        go_wp2
        go_ret
        exact ⟨congrArg (fun z => Ending.returned (.int .i64 z)) (show (k : Int) = fixE L _ by rw [HST.out]; simp), Bt B0.out (Ba HB.out _)⟩
      · have hd := and_ne8 he
        have HE := Lib.hid he
        clear he
        go_wp2
        go_roundw
        case measure => simp [intOf]; omega
        case rel => exact ⟨k + 1, by go_num, by omega, Lib.hid (Ba HB.out _), Lib.hid (by rw [HST.out, if_neg HE.out])⟩
    · go_wp2
      go_ret
      exact ⟨congrArg (fun z => Ending.returned (.int .i64 z)) (show (-1 : Int) = fixE L (x1, x2) by rw [← HF.out, fixA_end (by omega)]), Bt B0.out HB.out⟩
end
end Go.Proofs.YtaehendpdfpibaaGreatDoor

/-
  The reference's store: Masks, In, Get.
-/
namespace Go.Proofs.YtaehendpdfpibaaGreatDoor
set_option linter.unusedSimpArgs false
set_option linter.unusedVariables false
open Go.RowKit Go.Sort Go.Lib Go.Shelf

def encW (x : Nat) : List Value := [.int .u64 (x : Int)]
theorem lenW (x : Nat) : (encW x).length = 1 := rfl
theorem oneW (x : Nat) : ∀ v ∈ encW x, v.oneCell' = true := fun v hv => by simp [encW] at hv; subst hv; rfl
theorem apW : Ap encW 112 54 1 (.int .u64 0) 8 :=
  ⟨Tryz.underlying112, info_parts (by kernel_rfl), by decide, by decide, by decide, lenW, oneW⟩
theorem apHd : Ap encH 64 31 2 (.agg #[.int .i64 0, .int .i64 0]) 16 :=
  ⟨Tryz.underlying64, info_parts (by kernel_rfl), by decide, by decide, by decide, lenH, oneH⟩
def mkL (L : List En) (m : Nat) : List Nat := (List.range m).filter (hasM L)
theorem mkL_step (L : List En) (m : Nat) : mkL L (m + 1) = if hasM L m = true then mkL L m ++ [m] else mkL L m := by
  unfold mkL
  rw [List.range_succ, List.filter_append]
  by_cases e : hasM L m = true
  · rw [if_pos e]; simp [List.filter_cons, e]
  · rw [if_neg e]; simp [List.filter_cons, e]
theorem mkL_len (L : List En) (m : Nat) : (mkL L m).length ≤ m := Nat.le_trans (List.length_filter_le _ _) (by simp)
theorem hasM_at {L : List En} {k m : Nat} (hk : k < L.length) (h : maskV L[k]!.2 = m) : hasM L m = true :=
  (hasM_iff L m).2 ⟨L[k]!, by rw [getElem!_pos L k hk]; exact List.getElem_mem _, h⟩
theorem hasM_no {L : List En} {m : Nat} (h : ∀ i, i < L.length → maskV L[i]!.2 ≠ m) : ¬ hasM L m = true := by
  rw [hasM_iff]
  rintro ⟨r, hr, e⟩
  obtain ⟨i, hi, rfl⟩ := List.mem_iff_getElem.1 hr
  refine h i hi ?_
  rw [getElem!_pos L i hi]
  exact e
section
variable {w w' : World} {N : Nat → Prop} {pr : Nat} {L : List En}
set_option maxHeartbeats 4000000 in
set_option maxRecDepth 100000 in
theorem rmasksS (h : RefS w N pr L) (hR : ∀ r ∈ L, RightV r.2) : Calls Tryz.prog 53 #[rsP pr] w fun e w' => ∃ v, e = .returned v ∧ w'.ownsRow w.heap.size 54 1 v (mskE L).length (flat encW (mskE L)) ∧ RowKit.Below w.heap.size w w' := by
  obtain ⟨p, cap, N1, hb, hls, h1, h2, _, _⟩ := h.open
  obtain ⟨c0, _⟩ := one_cell hb
  have hl := cell_lt c0
  have HL := Lib.hid hls
  have HR := Lib.hid hR
  have hLz : L.length ≤ 9223372036854775807 := by omega
  clear h hb hls hR
  go_enter Tryz.func53, Tryz.ntmps53
  go_wp2
  go_loopw [3, 4] (fun s3 s4 wr => ∃ m : Nat, s4 = .int .u64 m ∧ m ≤ 1024 ∧ Hid (wr.ownsRow w.heap.size 54 1 s3 (mkL L m).length (flat encW (mkL L m))) ∧ Hid (RowKit.Below w.heap.size w wr)) (fun _ i _ => 1024 - (intOf i).toNat)
  case atStart => exact ⟨0, rfl, Nat.zero_le _, Lib.hid (World.ownsRow_made w #[] 0 (Nat.le_refl _) (Nat.zero_le _) (by simp)), Lib.hid (by repeat (first | with_reducible exact Below.refl _ _ | with_reducible assumption | with_reducible apply Ba | with_reducible apply Bd | with_reducible apply Bn | with_reducible apply Bg | (with_reducible refine Bs ?_ (by first | (simp; done) | (simp; omega)) _) | (with_reducible refine Bt ?_ (by assumption)) | (with_reducible refine Bt ?_ (Gr.below (by assumption)))))⟩
  case round =>
    obtain ⟨m, rfl, hm, HO, HB⟩ := hrel
    obtain ⟨pv, cv, rfl, hcv1, hcv2, _⟩ := row_val HO.out
    have hms := mkL_step L m
    have hml := mkL_len L m
    by_cases hm2 : m < 1024
    · have hmz : (m : Int) < 1024 := by omega
      replace c0 := Bc HB.out hl c0
      replace hl := Bl HB.out hl
      generalize hwc : wr = wc at *
      clear hwc wr
      go_wp2
      go_loopw [3, 17] (fun s3 s17 wr => ∃ k : Nat, s3 = .slice pv (mkL L m).length cv ∧ s17 = .int .i64 k ∧ k ≤ L.length ∧ Hid (RowKit.Below wc.heap.size wc wr) ∧ Hid (∀ i, i < k → maskV L[i]!.2 ≠ m)) (fun _ i _ => L.length - (intOf i).toNat)
      case atStart => exact ⟨0, rfl, rfl, Nat.zero_le _, Lib.hid (Below.refl _ _), Lib.hid (fun i hi => absurd hi (Nat.not_lt_zero _))⟩
      case round =>
        obtain ⟨k, rfl, rfl, hk, HZ, HF⟩ := hrel
        by_cases hkn : k < L.length
        · have hkz : (k : Int) < (L.length : Int) := by omega
          have HBz := Lib.hid (Bt HB.out HZ.out)
          obtain ⟨g, o, sp, c, rfl, hg, _, d1, d2, d3, hsl, hc1, hc2⟩ := HL.out.at hkn
          replace d1 := Bc HBz.out hg d1
          replace d2 := Bc HBz.out hg d2
          replace d3 := Bc HBz.out hg d3
          have hgr : g < wr.heap.size := Nat.lt_of_lt_of_le hg HBz.out.size
          have hrt := HR.out L[k]! (by rw [getElem!_pos L k hkn]; exact List.getElem_mem _)
          have hat := hasM_at (m := m) hkn
          have hlen : L[k]!.2.length ≤ 100000 := by
            have := rowL_len L[k]!.2; rw [(right_row hrt).2] at this
            omega
          obtain ⟨e1, he1⟩ : ∃ e1, e1 = L[k]!.1.1 := ⟨_, rfl⟩
          obtain ⟨e2, he2⟩ : ∃ e2, e2 = L[k]!.1.2 := ⟨_, rfl⟩
          rw [← he1] at d1
          rw [← he2] at d2
          have bA := Ba (Below.refl _ wr) (.cells #[.int .i64 e1, .int .i64 e2, .slice sp L[k]!.2.length c] 38)
          have CM := Lib.hid (rmask_call L[k]!.2 _ (wr.alloc (.cells #[.int .i64 e1, .int .i64 e2, .slice sp L[k]!.2.length c] 38)) (hsl.sl.below (Bt HBz.out bA)) hrt.2 hlen)
          have BA := Lib.hid (Bt HZ.out bA)
          have hne := fun hx => (show ∀ i, i < k + 1 → maskV L[i]!.2 ≠ m from fun i hi => if c : i < k then HF.out i c else (show i = k by omega) ▸ hx)
          have HNE := Lib.hid hne
          have HAT := Lib.hid hat
          generalize maskV L[k]!.2 = q at *
          generalize L[k]!.2.length = n2 at *
          clear hne hat hsl he1 he2 hrt bA
          go_wp2_with fail
          refine CM.out.mono ?_
          rintro e w5 ⟨rfl, hb5⟩
          have B5 := Lib.hid (Bt BA.out hb5)
          clear hb5 CM d1 d2 d3 hgr
          by_cases hq : q = m
          · subst hq
            rw [if_pos (HAT.out rfl)] at hms
            have O5 := Lib.hid ((row_below HO.out B5.out).alloc (.cells #[.int .u64 (q : Int)] 54))
            have S5 := Lib.hid (sl_lit (enc := encW) (w := w5) (cs := #[.int .u64 (q : Int)]) (t := 54) (b := w5.heap.size) [q] rfl rfl (by unfold maxLen; simp))
            have A5 := Lib.hid (Ba (Bt HB.out B5.out) (.cells #[.int .u64 (q : Int)] 54))
            go_wp2_with (at_builtin; refine wpl_app2 apW rfl _ _ rfl w.heap.size (by rfl) (by rfl) O5.out rfl S5.out (by simp; omega) A5.out.size ?_; intro v6 w6 hown6 hgrow6 hat6 hnil6; have O6 := Lib.hid hown6; have B6 := Lib.hid (grownB A5.out O5.out hgrow6); clear hown6 hgrow6 hat6 hnil6)
            go_roundw
            case measure => simp [intOf]; omega
            case rel => exact ⟨q + 1, by go_num, by omega, Lib.hid (by rw [hms]; exact O6.out), B6⟩
          · have hqz : ¬ (q : Int) = (m : Int) := by omega
            go_wp2
            go_roundw
            case measure => simp [intOf]; omega
            case rel => exact ⟨k + 1, rfl, by go_num, by omega, B5, Lib.hid (HNE.out hq)⟩
        · have hno := hasM_no (L := L) (m := m) (fun i hi => HF.out i (by omega))
          rw [if_neg hno] at hms
          go_wp2
          go_roundw
          case measure => simp [intOf]; omega
          case rel => exact ⟨m + 1, by go_num, by omega, Lib.hid (by rw [hms]; exact row_below HO.out HZ.out), Lib.hid (Bt HB.out HZ.out)⟩
    · have hm4 : m = 1024 := by omega
      subst hm4
      go_wp2
      go_ret
      exact ⟨_, rfl, HO.out, HB.out⟩
end
end Go.Proofs.YtaehendpdfpibaaGreatDoor

/-
  The reference's store: In, Get.
-/
namespace Go.Proofs.YtaehendpdfpibaaGreatDoor
set_option linter.unusedSimpArgs false
set_option linter.unusedVariables false
open Go.RowKit Go.Sort Go.Lib Go.Shelf

theorem inE_step {L : List En} {k : Nat} (hk : k < L.length) (q : Nat) : inE (L.take (k + 1)) q = if maskV L[k]!.2 = q then inE (L.take k) q ++ [L[k]!.1] else inE (L.take k) q := by
  rw [getElem!_pos L k hk]
  unfold inE hds
  rw [List.take_add_one, List.getElem?_eq_getElem hk, List.filter_append, List.map_append]
  by_cases e : maskV L[k].2 = q
  · rw [if_pos e]; simp [List.filter_cons, e]
  · rw [if_neg e]; simp [List.filter_cons, e]
theorem inE_len (L : List En) (q k : Nat) : (inE (L.take k) q).length ≤ k := by
  unfold inE hds
  rw [List.length_map]
  exact Nat.le_trans (List.length_filter_le _ _) (by simp; omega)
section
variable {w w' : World} {N : Nat → Prop} {pr : Nat} {L : List En}
set_option maxHeartbeats 4000000 in
set_option maxRecDepth 100000 in
theorem rinS (h : RefS w N pr L) (hR : ∀ r ∈ L, RightV r.2) (h1000 : L.length ≤ 1000) (q : Nat) : Calls Tryz.prog 56 #[rsP pr, .int .u64 q] w fun e w' => ∃ v, e = .returned v ∧ w'.ownsRow w.heap.size 31 2 v (inE L q).length (flat encH (inE L q)) ∧ RowKit.Below w.heap.size w w' := by
  obtain ⟨p, cap, N1, hb, hls, h1, h2, _, _⟩ := h.open
  obtain ⟨c0, _⟩ := one_cell hb
  have hl := cell_lt c0
  have HL := Lib.hid hls
  have HR := Lib.hid hR
  clear h hb hls hR
  go_enter Tryz.func56, Tryz.ntmps56
  go_wp2
  go_loopw [5, 14] (fun s5 s14 wr => ∃ k : Nat, s14 = .int .i64 k ∧ k ≤ L.length ∧ Hid (wr.ownsRow w.heap.size 31 2 s5 (inE (L.take k) q).length (flat encH (inE (L.take k) q))) ∧ Hid (RowKit.Below w.heap.size w wr)) (fun _ i _ => L.length - (intOf i).toNat)
  case atStart => exact ⟨0, rfl, Nat.zero_le _, Lib.hid (World.ownsRow_made w #[] 0 (Nat.le_refl _) (Nat.zero_le _) (by simp)), Lib.hid (by repeat (first | with_reducible exact Below.refl _ _ | with_reducible assumption | with_reducible apply Ba | with_reducible apply Bd | with_reducible apply Bn | with_reducible apply Bg | (with_reducible refine Bs ?_ (by first | (simp; done) | (simp; omega)) _) | (with_reducible refine Bt ?_ (by assumption)) | (with_reducible refine Bt ?_ (Gr.below (by assumption)))))⟩
  case round =>
    obtain ⟨k, rfl, hk, HO, HB⟩ := hrel
    by_cases hkn : k < L.length
    · have hkz : (k : Int) < (L.length : Int) := by omega
      have hil := inE_len L q k
      have HSt := Lib.hid (inE_step hkn q)
      obtain ⟨g, o, sp, c, rfl, hg, _, d1, d2, d3, hsl, hc1, hc2⟩ := HL.out.at hkn
      replace d1 := Bc HB.out hg d1
      replace d2 := Bc HB.out hg d2
      replace d3 := Bc HB.out hg d3
      have hgr : g < wr.heap.size := Nat.lt_of_lt_of_le hg HB.out.size
      have hrt := HR.out L[k]! (by rw [getElem!_pos L k hkn]; exact List.getElem_mem _)
      have hlen : L[k]!.2.length ≤ 100000 := by
        have := rowL_len L[k]!.2; rw [(right_row hrt).2] at this
        omega
      generalize L[k]! = y at *
      obtain ⟨⟨e1, e2⟩, yl⟩ := y
      dsimp only at *
      have bA := Ba (Below.refl _ wr) (.cells #[.int .i64 e1, .int .i64 e2, .slice sp yl.length c] 38)
      have A1 := Lib.hid (heap_alloc_new wr (.cells #[.int .i64 e1, .int .i64 e2, .slice sp yl.length c] 38))
      have CM := Lib.hid (rmask_call yl _ (wr.alloc (.cells #[.int .i64 e1, .int .i64 e2, .slice sp yl.length c] 38)) (hsl.sl.below (Bt HB.out bA)) hrt.2 hlen)
      have BA := Lib.hid bA
      generalize maskV yl = mq at *
      generalize yl.length = n2 at *
      clear hsl hrt bA
      go_wp2_with fail
      refine CM.out.mono ?_
      rintro e w5 ⟨rfl, hb5⟩
      have B5 := Lib.hid (Bt BA.out hb5)
      obtain ⟨⟨a0, a1, a2⟩, _, _, _⟩ := three_cells (blk_below A1.out hb5)
      have hal := cell_lt a0
      clear hb5 CM d1 d2 d3 hgr A1
      by_cases hq : mq = q
      · have H5 := Lib.hid (HSt.out.trans (if_pos hq))
        subst hq
        obtain ⟨pv, cv, rfl, _, _, _⟩ := row_val HO.out
        have O5 := Lib.hid ((row_below HO.out B5.out).alloc (.cells #[.int .i64 e1, .int .i64 e2] 31))
        have S5 := Lib.hid (sl_lit (enc := encH) (w := w5) (cs := #[.int .i64 e1, .int .i64 e2]) (t := 31) (b := w5.heap.size) [(e1, e2)] rfl rfl (by unfold maxLen; simp))
        have A5 := Lib.hid (Ba (Bt HB.out B5.out) (.cells #[.int .i64 e1, .int .i64 e2] 31))
        go_wp2_with (at_builtin; refine wpl_app2 apHd rfl _ _ rfl w.heap.size (by rfl) (by rfl) O5.out rfl S5.out (by simp; omega) A5.out.size ?_; intro v6 w6 hown6 hgrow6 hat6 hnil6; have O6 := Lib.hid hown6; have B6 := Lib.hid (grownB A5.out O5.out hgrow6); clear hown6 hgrow6 hat6 hnil6)
        go_roundw
        case measure => simp [intOf]; omega
        case rel => exact ⟨k + 1, by go_num, by omega, Lib.hid (by rw [H5.out]; exact O6.out), B6⟩
      · have H5 := Lib.hid (HSt.out.trans (if_neg hq))
        have hqz : ¬ (mq : Int) = (q : Int) := by omega
        go_wp2
        go_roundw
        case measure => simp [intOf]; omega
        case rel => exact ⟨k + 1, by go_num, by omega, Lib.hid (by rw [H5.out]; exact row_below HO.out B5.out), Lib.hid (Bt HB.out B5.out)⟩
    · have hkk : k = L.length := by omega
      have O9 := HO.out
      rw [hkk, List.take_length] at O9
      replace O9 := Lib.hid O9
      go_wp2
      go_ret
      exact ⟨_, rfl, O9.out, HB.out⟩
set_option maxHeartbeats 4000000 in
set_option maxRecDepth 100000 in
theorem rgetS (h : RefS w N pr L) (x1 x2 k : Int) : Calls Tryz.prog 15 #[rsP pr, .agg #[.int .i64 x1, .int .i64 x2], .int .i64 k] w fun e w' => e = .returned (.tuple #[aggV (getEV L (x1, x2) k), .int .i64 (getEN L (x1, x2) k : Nat)]) ∧ RowKit.Below w.heap.size w w' := by
  have bb := Ba (Ba (Below.refl _ w) (.cells #[.int .i64 x1, .int .i64 x2] 31)) (.cells #[.int .i64 0, .int .i64 0, .int .i64 0] 34)
  have B0 := Lib.hid bb
  have b0 := Lib.hid (blk_below (heap_alloc_new w (.cells #[.int .i64 x1, .int .i64 x2] 31)) (Ba (Below.refl _ _) (.cells #[.int .i64 0, .int .i64 0, .int .i64 0] 34)))
  have v0 := Lib.hid (heap_alloc_new (w.alloc (.cells #[.int .i64 x1, .int .i64 x2] 31)) (.cells #[.int .i64 0, .int .i64 0, .int .i64 0] 34))
  have h0 := Lib.hid (h.below bb)
  have hs0 : (w.alloc (.cells #[.int .i64 x1, .int .i64 x2] 31)).heap.size = w.heap.size + 1 := by simp
  rw [hs0] at v0
  have CF := Lib.hid (rfindS h0.out x1 x2)
  obtain ⟨W, hW⟩ : ∃ W, W = (w.alloc (.cells #[.int .i64 x1, .int .i64 x2] 31)).alloc (.cells #[.int .i64 0, .int .i64 0, .int .i64 0] 34) := ⟨_, rfl⟩
  rw [← hW] at B0 b0 v0 h0 CF
  obtain ⟨a0, a1, _, _⟩ := two_cells b0.out
  have hal := cell_lt a0
  clear h bb hs0
  cases hf : fndE L (x1, x2) with
  | none =>
    have e1 : getEN L (x1, x2) k = 3 := by unfold getEN; rw [hf]; rfl
    have e2 : getEV L (x1, x2) k = (0, 0, 0) := by unfold getEV; rw [e1]; rfl
    rw [e1, e2]
    rw [fixE_none hf] at CF
    unfold aggV
    clear hf e1 e2
    go_enter Tryz.func15, Tryz.ntmps15
    go_wp2_with fail
    rw [← hW]
    clear hW
    refine CF.out.mono ?_
    rintro e w1 ⟨rfl, hb1⟩
    obtain ⟨⟨d0, d1, d2⟩, f0, f1, f2⟩ := three_cells (blk_below v0.out hb1)
    have hdl := cell_lt d0
    have B1 := Lib.hid (Bt B0.out hb1)
    clear hb1 CF
    go_wp2
    exact bodyPost_ret (v := .tuple #[.agg #[.int .i64 0, .int .i64 0, .int .i64 0], .int .i64 3]) (by simp [results, Tryz.results15, go_sem, *]) rfl ⟨rfl, by have := B1.out; exact Bs (Bs (Bs this (by first | (simp; done) | (simp; omega)) _) (by first | (simp; done) | (simp; omega)) _) (by first | (simp; done) | (simp; omega)) _⟩
  | some l =>
    obtain ⟨i, hi1, hi2, hi3⟩ := fixE_some hf
    rw [hi1] at CF
    obtain ⟨p, cap, N1, hb, hls, h1, h2, _, _⟩ := h0.out.open
    obtain ⟨c0, _⟩ := one_cell hb
    have hl := cell_lt c0
    have hiz : (i : Int) < (L.length : Int) := by omega
    obtain ⟨g, o, sp, c, rfl, hg, _, d1, d2, d3, hsl, hc1, hc2⟩ := hls.at hi2
    rw [hi3] at d1 d2 d3 hsl hc1
    dsimp only at d1 d2 d3 hsl hc1
    have e1 : getEN L (x1, x2) k = if hasK l k then 0 else 5 := by unfold getEN; rw [hf, rowE_of hf]; rfl
    have e2 : getEV L (x1, x2) k = if hasK l k then fndV l k else (0, 0, 0) := by
      unfold getEV
      rw [e1, rowE_of hf]
      cases hasK l k <;> rfl
    rw [e1, e2]
    have FF : Hid (∀ W', RowKit.Below W.heap.size W W' → Calls Tryz.prog 58 #[.slice sp l.length c, .int .i64 k] W' fun e w' => e = .returned (.tuple #[aggV (fndV l k), .bool (hasK l k)]) ∧ Gr W' w') := fun W' hb => rfind_call l _ k W' (hsl.sl.below hb)
    unfold aggV at FF ⊢
    generalize fndV l k = x at *
    generalize hasK l k = hk at *
    generalize l.length = n2 at *
    obtain ⟨y1, y2, y3⟩ := x
    dsimp only at FF
    clear hf e1 e2 hi1 hi3 hsl hls hb
    cases hk
    · simp only [Bool.false_eq_true, if_false]
      go_enter Tryz.func15, Tryz.ntmps15
      go_wp2_with fail
      rw [← hW]
      clear hW
      refine CF.out.mono ?_
      rintro e w1 ⟨rfl, hb1⟩
      replace c0 := Bc hb1 hl c0
      replace d3 := Bc hb1 hg d3
      have hl1 := Bl hb1 hl
      have hg1 := Bl hb1 hg
      have B1 := Lib.hid hb1
      clear hb1 CF d1 d2
      go_wp2_with fail
      refine (FF.out _ B1.out).mono ?_
      rintro e w2 ⟨rfl, hg2⟩
      obtain ⟨⟨r0, r1, r2⟩, r3, r4, r5⟩ := three_cells (blk_below v0.out (Bt B1.out hg2.below))
      have hr := cell_lt r0
      have B2 := Lib.hid (Bt B0.out (Bt B1.out hg2.below))
      clear hg2
      go_wp2
      exact bodyPost_ret (v := .tuple #[.agg #[.int .i64 0, .int .i64 0, .int .i64 0], .int .i64 5]) (by simp [results, Tryz.results15, go_sem, *]) rfl ⟨rfl, by have := B2.out; exact (by repeat (first | with_reducible exact Below.refl _ _ | with_reducible assumption | with_reducible apply Ba | with_reducible apply Bd | with_reducible apply Bn | with_reducible apply Bg | (with_reducible refine Bs ?_ (by first | (simp; done) | (simp; omega)) _) | (with_reducible refine Bt ?_ (by assumption)) | (with_reducible refine Bt ?_ (Gr.below (by assumption)))))⟩
    · simp only [if_true]
      go_enter Tryz.func15, Tryz.ntmps15
      go_wp2_with fail
      rw [← hW]
      clear hW
      refine CF.out.mono ?_
      rintro e w1 ⟨rfl, hb1⟩
      replace c0 := Bc hb1 hl c0
      replace d3 := Bc hb1 hg d3
      have hl1 := Bl hb1 hl
      have hg1 := Bl hb1 hg
      have B1 := Lib.hid hb1
      clear hb1 CF d1 d2
      go_wp2_with fail
      refine (FF.out _ B1.out).mono ?_
      rintro e w2 ⟨rfl, hg2⟩
      obtain ⟨⟨r0, r1, r2⟩, r3, r4, r5⟩ := three_cells (blk_below v0.out (Bt B1.out hg2.below))
      have hr := cell_lt r0
      have B2 := Lib.hid (Bt B0.out (Bt B1.out hg2.below))
      clear hg2
      go_wp2
      exact bodyPost_ret (v := .tuple #[.agg #[.int .i64 y1, .int .i64 y2, .int .i64 y3], .int .i64 0]) (by simp [results, Tryz.results15, go_sem, *]) rfl ⟨rfl, by have := B2.out; exact (by repeat (first | with_reducible exact Below.refl _ _ | with_reducible assumption | with_reducible apply Ba | with_reducible apply Bd | with_reducible apply Bn | with_reducible apply Bg | (with_reducible refine Bs ?_ (by first | (simp; done) | (simp; omega)) _) | (with_reducible refine Bt ?_ (by assumption)) | (with_reducible refine Bt ?_ (Gr.below (by assumption)))))⟩
end
end Go.Proofs.YtaehendpdfpibaaGreatDoor
