/-
  The table's Add, where it is full and where it puts (written by mkadd.py).
-/
import Derived.Test.YtknfmjjlfhfocaaDoorTg
namespace Go.Proofs.YtknfmjjlfhfocaaDoor
set_option linter.unusedSimpArgs false
set_option linter.unusedVariables false
open Go.RowKit Go.Sort Go.Lib Go.Shelf

section
variable {w : World} {M : Nat → Prop} {pt q : Nat} {R : List En} {A : Nat → Addr}
/-- The first region, where the row is right and of the mask: what it does not change. -/
def SV (pt pm b gc : Nat) (x1 x2 x3 : Int) (w' : World) : Prop := w'.cell? ⟨pt, 1, none⟩ = some (.map (some pm)) ∧ w'.cell? ⟨b, 0, none⟩ = some (.int .i64 x1) ∧ w'.cell? ⟨b, 1, none⟩ = some (.int .i64 x2) ∧ w'.cell? ⟨b, 2, none⟩ = some (.int .i64 x3) ∧ (Instr.lookup MapTy (.map (some pm)) (.int .i64 x1) false).run Tryd.prog w' = .ok (.pointer (some ⟨gc, 0, none⟩)) w'
def SH (pt ph b : Nat) (h1 h2 : Int) (w' : World) : Prop := w'.cell? ⟨pt, 0, none⟩ = some (.pointer (some ⟨ph, 0, none⟩)) ∧ w'.cell? ⟨b, 0, none⟩ = some (.int .i64 h1) ∧ w'.cell? ⟨b, 1, none⟩ = some (.int .i64 h2)
set_option maxHeartbeats 2000000 in
set_option maxRecDepth 100000 in
theorem tadd_full (h : Tab w M pt q R) (h1 h2 : Int) (l : List Vl) (v : Value) (hv : Sl encV w v l) (hlen : l.length ≤ 100000) (hr : rightB l = true) (hm : maskV l = q) (hf : R.length = 128) (hE : Er7 w A) : Calls Tryd.prog 11 #[ptP pt, .agg #[.int .i64 h1, .int .i64 h2], v] w fun e w' => e = .returned (zErr A 1) ∧ RowKit.Below w.heap.size w w' := by
  have HR : Hid (∀ W, RowKit.Below w.heap.size w W → Calls Tryd.prog 37 #[v] W fun e w' => e = .returned (.bool true) ∧ RowKit.Below W.heap.size W w') := fun W hb => (right_call l v A W (hv.below hb) (hE.below hb).er).mono fun e w' ⟨h1, h2⟩ => ⟨by rw [h1, hr], h2.below⟩
  have HM : Hid (∀ W, RowKit.Below w.heap.size w W → Calls Tryd.prog 38 #[v] W fun e w' => e = .returned (.int .u64 q) ∧ RowKit.Below W.heap.size W w') := fun W hb => by
    have := mask_call l v (A 4) W (hv.below hb) ((rightB_iff l).1 hr).2 (hE.below hb).er.k hlen
    rwa [hm] at this
  obtain ⟨p, cap, rfl, _, _, _⟩ := hv
  obtain ⟨ph, pm, f, hT, _⟩ := h
  obtain ⟨MH, hH⟩ := hT.handles
  have HP : Hid (∀ W vl, RowKit.Below w.heap.size w W → Sl encH W vl [(h1, h2)] → Calls Tryd.prog 39 #[ptP ph, vl] W fun e w' => e = .returned (errC A 1) ∧ RowKit.Below W.heap.size W w') := fun W vl hb hs =>
    pushH_no (hH.below hb) [(h1, h2)] vl hs (by decide) (by decide) (by simp [hf]) _ _ (hE.below hb).full
  clear hE hr hm hH
  unfold zErr errC at *
  generalize A 1 = ea at *
  obtain ⟨W0, hW0⟩ : ∃ W0, W0 = w.alloc (.cells #[.int .i64 h1, .int .i64 h2] 38) := ⟨_, rfl⟩
  have B0 := Lib.hid (show RowKit.Below w.heap.size w W0 by rw [hW0]; exact Ba (Below.refl _ w) _)
  obtain ⟨⟨c0, c1, c2⟩, f0, f1, f2⟩ := three_cells (hT.below B0.out).head
  have bb := Lib.hid (show W0.heap[w.heap.size]? = some (.cells #[.int .i64 h1, .int .i64 h2] 38 (0, 0)) by rw [hW0]; exact heap_alloc_new w _)
  have HT := Lib.hid hT
  have hl := cell_lt c0
  clear hT hf
  go_enter Tryd.func11, Tryd.ntmps11
  go_wp2_with fail
  rw [← hW0]
  clear hW0
  refine wp_region_held_drew (S := (fun w' => Below (W0).heap.size (W0) w' ∧ ∀ b_1 o, b_1 < (W0).heap.size → w'.cell? ⟨b_1, o, none⟩ = (W0).cell? ⟨b_1, o, none⟩)) (by kernel_rfl) (keep0 _) (fun hHeld => ?_)
  (refine wpAnyH_take (i := 0) (v := ?_) rfl (by kernel_rfl) (by kernel_rfl) (by kernel_rfl) (fun _ _ _ h => h) (Or.inl ⟨by rfl, ?rt⟩) (by assumption) ?_; case rt => (intro w hSw; (try dsimp only at hSw); go_simp; (try with_reducible rfl))); (try simp only [Act.put, List.getElem_toArray, List.getElem_cons_succ, List.getElem_cons_zero, List.setIfInBounds_toArray, List.set_cons_zero, List.set_cons_succ])
  (refine wpAnyH_ready (rs := [1]) (by kernel_rfl) (by simp) ?_; refine AllReadyH.cons rfl (fun K hK => ?_) AllReadyH.nil; go_simp; refine (HR.out _ (Bd B0.out)).mono ?_; rintro e w1 ⟨rfl, hb1⟩; refine hK.out _ _ (keepB (by assumption) hb1) (fun hHeld => ?_); clear hK K); (try simp only [Act.put, List.getElem_toArray, List.getElem_cons_succ, List.getElem_cons_zero, List.setIfInBounds_toArray, List.set_cons_zero, List.set_cons_succ])
  (refine wpAnyH_take (i := 2) (v := ?_) rfl (by kernel_rfl) (by kernel_rfl) (by kernel_rfl) (fun _ _ _ h => h) (Or.inl ⟨by rfl, ?rt⟩) (by assumption) ?_; case rt => (intro w hSw; (try dsimp only at hSw); go_simp; (try with_reducible rfl))); (try simp only [Act.put, List.getElem_toArray, List.getElem_cons_succ, List.getElem_cons_zero, List.setIfInBounds_toArray, List.set_cons_zero, List.set_cons_succ])
  (refine wpAnyH_take (i := 3) (v := ?_) rfl (by kernel_rfl) (by kernel_rfl) (by kernel_rfl) (fun _ _ _ h => h) (Or.inl ⟨by rfl, ?rt⟩) (by assumption) ?_; case rt => (intro w hSw; (try dsimp only at hSw); go_simp; (try with_reducible rfl))); (try simp only [Act.put, List.getElem_toArray, List.getElem_cons_succ, List.getElem_cons_zero, List.setIfInBounds_toArray, List.set_cons_zero, List.set_cons_succ])
  (refine wpAnyH_take (i := 4) (v := ?_) rfl (by kernel_rfl) (by kernel_rfl) (by kernel_rfl) (fun _ _ _ h => h) (Or.inl ⟨by rfl, ?rt⟩) (by assumption) ?_; case rt => (intro w hSw; (try dsimp only at hSw); go_simp; (try with_reducible rfl))); (try simp only [Act.put, List.getElem_toArray, List.getElem_cons_succ, List.getElem_cons_zero, List.setIfInBounds_toArray, List.set_cons_zero, List.set_cons_succ])
  (refine wpAnyH_take (i := 6) (v := ?_) rfl (by kernel_rfl) (by kernel_rfl) (by kernel_rfl) (fun _ _ _ h => h) (Or.inl ⟨by rfl, ?rt⟩) (by assumption) ?_; case rt => (intro w hSw; (try dsimp only at hSw); go_simp; (try with_reducible rfl))); (try simp only [Act.put, List.getElem_toArray, List.getElem_cons_succ, List.getElem_cons_zero, List.setIfInBounds_toArray, List.set_cons_zero, List.set_cons_succ])
  (refine wpAnyH_take (i := 7) (v := ?_) rfl (by kernel_rfl) (by kernel_rfl) (by kernel_rfl) (fun _ _ _ h => h) (Or.inl ⟨by rfl, ?rt⟩) (by assumption) ?_; case rt => (intro w hSw; (try dsimp only at hSw); go_simp; (try with_reducible rfl))); (try simp only [Act.put, List.getElem_toArray, List.getElem_cons_succ, List.getElem_cons_zero, List.setIfInBounds_toArray, List.set_cons_zero, List.set_cons_succ])
  (refine wpAnyH_take (i := 8) (v := ?_) rfl (by kernel_rfl) (by kernel_rfl) (by kernel_rfl) (fun _ _ _ h => h) (Or.inl ⟨by rfl, ?rt⟩) (by assumption) ?_; case rt => (intro w hSw; (try dsimp only at hSw); go_simp; (try with_reducible rfl))); (try simp only [Act.put, List.getElem_toArray, List.getElem_cons_succ, List.getElem_cons_zero, List.setIfInBounds_toArray, List.set_cons_zero, List.set_cons_succ])
  (refine wpAnyH_take (i := 9) (v := ?_) rfl (by kernel_rfl) (by kernel_rfl) (by kernel_rfl) (fun _ _ _ h => h) (Or.inl ⟨by rfl, ?rt⟩) (by assumption) ?_; case rt => (intro w hSw; (try dsimp only at hSw); go_simp; (try with_reducible rfl))); (try simp only [Act.put, List.getElem_toArray, List.getElem_cons_succ, List.getElem_cons_zero, List.setIfInBounds_toArray, List.set_cons_zero, List.set_cons_succ])
  (refine wpAnyH_ready (rs := [5]) (by kernel_rfl) (by simp) ?_; refine AllReadyH.cons rfl (fun K hK => ?_) AllReadyH.nil; go_simp; refine (HM.out _ (Bt B0.out hHeld.1)).mono ?_; rintro e w1 ⟨rfl, hb1⟩; refine hK.out _ _ (keepB (by assumption) hb1) (fun hHeld => ?_); clear hK K); (try simp only [Act.put, List.getElem_toArray, List.getElem_cons_succ, List.getElem_cons_zero, List.setIfInBounds_toArray, List.set_cons_zero, List.set_cons_succ])
  (refine wpAnyH_take (i := 10) (v := ?_) rfl (by kernel_rfl) (by kernel_rfl) (by kernel_rfl) (fun _ _ _ h => h) (Or.inl ⟨by rfl, ?rt⟩) (by assumption) ?_; case rt => (intro w hSw; (try dsimp only at hSw); go_simp; (try with_reducible rfl))); (try simp only [Act.put, List.getElem_toArray, List.getElem_cons_succ, List.getElem_cons_zero, List.setIfInBounds_toArray, List.set_cons_zero, List.set_cons_succ])
  (refine wpAnyH_take (i := 11) (v := ?_) rfl (by kernel_rfl) (by kernel_rfl) (by kernel_rfl) (fun _ _ _ h => h) (Or.inl ⟨by rfl, ?rt⟩) (by assumption) ?_; case rt => (intro w hSw; (try dsimp only at hSw); go_simp; (try with_reducible rfl))); (try simp only [Act.put, List.getElem_toArray, List.getElem_cons_succ, List.getElem_cons_zero, List.setIfInBounds_toArray, List.set_cons_zero, List.set_cons_succ])
  refine wpAnyH_done (by kernel_rfl) ?_ _
  have B1 := Lib.hid (Bt B0.out hHeld.1)
  have K1 := Lib.hid hHeld.1
  clear c0 c1 c2 f0 f1 f2 hl hHeld hb1
  go_wp2_with fail
  obtain ⟨⟨c0, c1, c2⟩, f0, f1, f2⟩ := three_cells (HT.out.below B1.out).head
  have hl := cell_lt c0
  have b1 := blk_below bb.out K1.out
  obtain ⟨d0, d1, _, _⟩ := two_cells b1
  have hl2 := cell_lt d0
  have hs0 : SH pt ph w.heap.size h1 h2 w1.drew := ⟨c0, d0, d1⟩
  have hs1 : ∀ o, SH pt ph w.heap.size h1 h2 (w1.drew.alloc o) := fun o => ⟨Bc (Ba (Bd (Below.refl _ w1)) o) hl c0, Bc (Ba (Bd (Below.refl _ w1)) o) hl2 d0, Bc (Ba (Bd (Below.refl _ w1)) o) hl2 d1⟩
  have hs2 : ∀ o w', RowKit.Below (w1.drew.alloc o).heap.size (w1.drew.alloc o) w' → SH pt ph w.heap.size h1 h2 w' := fun o w' hb => ⟨Bc hb (cell_lt (hs1 o).1) (hs1 o).1, Bc hb (cell_lt (hs1 o).2.1) (hs1 o).2.1, Bc hb (cell_lt (hs1 o).2.2) (hs1 o).2.2⟩
  unfold SH at *
  refine wp_region_held_drew (S := fun w' => w'.cell? ⟨pt, 0, none⟩ = some (.pointer (some ⟨ph, 0, none⟩)) ∧ w'.cell? ⟨w.heap.size, 0, none⟩ = some (.int .i64 h1) ∧ w'.cell? ⟨w.heap.size, 1, none⟩ = some (.int .i64 h2)) (by kernel_rfl) (hs0) (fun hHeld => ?_)
  (refine wpAnyH_take (i := 0) (v := ?_) rfl (by kernel_rfl) (by kernel_rfl) (by kernel_rfl) (fun _ _ _ h => h) (Or.inl ⟨by rfl, ?rt⟩) (by assumption) ?_; case rt => (intro w hSw; (try dsimp only at hSw); go_simp; (try with_reducible rfl))); (try simp only [Act.put, List.getElem_toArray, List.getElem_cons_succ, List.getElem_cons_zero, List.setIfInBounds_toArray, List.set_cons_zero, List.set_cons_succ])
  (refine wpAnyH_take (i := 1) (v := ?_) rfl (by kernel_rfl) (by kernel_rfl) (by kernel_rfl) (fun _ _ _ h => h) (Or.inl ⟨by rfl, ?rt⟩) (by assumption) ?_; case rt => (intro w hSw; (try dsimp only at hSw); go_simp; (try with_reducible rfl))); (try simp only [Act.put, List.getElem_toArray, List.getElem_cons_succ, List.getElem_cons_zero, List.setIfInBounds_toArray, List.set_cons_zero, List.set_cons_succ])
  (refine wpAnyH_take (i := 2) (v := ?_) rfl (by kernel_rfl) (by kernel_rfl) (by kernel_rfl) (fun _ _ _ h => h) (Or.inl ⟨by rfl, ?rt⟩) (by assumption) ?_; case rt => (intro w hSw; (try dsimp only at hSw); go_simp; (try with_reducible rfl))); (try simp only [Act.put, List.getElem_toArray, List.getElem_cons_succ, List.getElem_cons_zero, List.setIfInBounds_toArray, List.set_cons_zero, List.set_cons_succ])
  (refine wpAnyH_take (i := 3) (v := ?_) rfl (by kernel_rfl) (by kernel_rfl) (by kernel_rfl) (fun _ _ _ h => h) (Or.inl ⟨by rfl, ?rt⟩) (by assumption) ?_; case rt => (intro w hSw; (try dsimp only at hSw); go_simp; (try with_reducible rfl))); (try simp only [Act.put, List.getElem_toArray, List.getElem_cons_succ, List.getElem_cons_zero, List.setIfInBounds_toArray, List.set_cons_zero, List.set_cons_succ])
  (refine wpAnyH_take (i := 4) (v := ?_) rfl (by kernel_rfl) (by kernel_rfl) (by kernel_rfl) (fun _ _ _ h => h) (Or.inl ⟨by rfl, ?rt⟩) (by assumption) ?_; case rt => (intro w hSw; (try dsimp only at hSw); go_simp; (try with_reducible rfl))); (try simp only [Act.put, List.getElem_toArray, List.getElem_cons_succ, List.getElem_cons_zero, List.setIfInBounds_toArray, List.set_cons_zero, List.set_cons_succ])
  refine wpAnyH_ready (rs := [5]) (by kernel_rfl) (by simp) ?_; refine (AllReadyH.cons rfl (fun K hK => ?_) AllReadyH.nil)
  go_simp; refine hK.out _ _ (hs1 _) (fun hHeld => ?_); clear hK K; (try simp only [Act.put, List.getElem_toArray, List.getElem_cons_succ, List.getElem_cons_zero, List.setIfInBounds_toArray, List.set_cons_zero, List.set_cons_succ])
  refine wpAnyH_ready (rs := [6]) (by kernel_rfl) (by simp) ?_; refine (AllReadyH.cons rfl (fun K hK => ?_) AllReadyH.nil)
  go_simp; refine (HP.out _ _ (Ba (Bd B1.out) _) (sl_lit (enc := encH) (cs := #[.int .i64 h1, .int .i64 h2]) (t := 38) [(h1, h2)] (by simp) rfl (by unfold maxLen; simp))).mono ?_; rintro e w3 ⟨rfl, hb3⟩; refine hK.out _ _ (hs2 _ _ hb3) (fun hHeld => ?_); clear hK K; (try simp only [Act.put, List.getElem_toArray, List.getElem_cons_succ, List.getElem_cons_zero, List.setIfInBounds_toArray, List.set_cons_zero, List.set_cons_succ])
  (refine wpAnyH_take (i := 7) (v := ?_) rfl (by kernel_rfl) (by kernel_rfl) (by kernel_rfl) (fun _ _ _ h => h) (Or.inl ⟨by rfl, ?rt⟩) (by assumption) ?_; case rt => (intro w hSw; (try dsimp only at hSw); go_simp; (try with_reducible rfl))); (try simp only [Act.put, List.getElem_toArray, List.getElem_cons_succ, List.getElem_cons_zero, List.setIfInBounds_toArray, List.set_cons_zero, List.set_cons_succ])
  refine wpAnyH_done (by kernel_rfl) ?_ _
  have B3 := Lib.hid (Bt (Ba (Bd B1.out) (.cells #[.int .i64 h1, .int .i64 h2] 38)) hb3)
  clear hb3
  go_wp2
  go_ret2
  exact ⟨rfl, B3.out⟩

theorem colK_put (R : List En) (h : Hd) {l : List Vl} (k : Int) : colK (R ++ [(h, l)]) k = colK R k ++ [fndV l k] := by simp [colK]
/-- The columns, where the first i components of the row l have been put. -/
def colI (R : List En) (l : List Vl) (i : Nat) (k : Int) : List Vl := if k ∈ (l.take i).map (fun x => x.1) then colK R k ++ [fndV l k] else colK R k
theorem colI_zero (R : List En) (l : List Vl) : colI R l 0 = colK R := by funext k; simp [colI]
theorem colI_here {R : List En} {l : List Vl} (hr : RiseK l) {i : Nat} (hi : i < l.length) : colI R l i l[i].1 = colK R l[i].1 := by
  unfold colI
  rw [if_neg]
  intro h
  obtain ⟨x, hx, e⟩ := List.mem_map.1 h
  obtain ⟨j, hj, rfl⟩ := List.getElem_of_mem hx
  rw [List.length_take] at hj
  have := List.pairwise_iff_getElem.1 hr j i (by omega) hi (by omega)
  rw [List.getElem_take] at e
  omega
theorem colI_step {R : List En} {l : List Vl} (hr : RightV l) {i : Nat} (hi : i < l.length) (k : Int) : (if k = l[i].1 then colK R l[i].1 ++ [l[i]] else colI R l i k) = colI R l (i + 1) k := by
  unfold colI
  rw [List.take_succ_eq_append_getElem hi, List.map_append, List.map_cons, List.map_nil]
  by_cases c : k = l[i].1
  · rw [if_pos c, if_pos (by rw [c]; simp), c, find_of_mem hr (List.getElem_mem hi)]
  · rw [if_neg c]
    simp only [List.mem_append, List.mem_singleton, c, or_false]
theorem colI_end {R : List En} {l : List Vl} {q : Nat} {h : Hd} (hl : EntOk q (h, l)) {k : Int} (hk : k ∈ Ks q) : colI R l l.length k = colK (R ++ [(h, l)]) k := by
  unfold colI
  rw [List.take_length, if_pos (by have := hl.1; dsimp only at this; rw [this]; exact hk), colK_put]

set_option maxHeartbeats 4000000 in
set_option maxRecDepth 100000 in
theorem tadd_yes (h : Tab w M pt q R) (h1 h2 : Int) (l : List Vl) (v : Value) (hv : SlN (fun b => b < w.heap.size ∧ ¬ M b) encV w v l) (hlen : l.length ≤ 100000) (hr : rightB l = true) (hm : maskV l = q) (hf : R.length < 128) (hE : Er7 w A) :
    Calls Tryd.prog 11 #[ptP pt, .agg #[.int .i64 h1, .int .i64 h2], v] w fun e w' => e = .returned (.tuple #[.int .i64 R.length, .nilIface]) ∧ Tab w' (New M w w') pt q (R ++ [((h1, h2), l)]) ∧ Tch M w w' := by
  have HR : Hid (∀ W, RowKit.Below w.heap.size w W → Calls Tryd.prog 37 #[v] W fun e w' => e = .returned (.bool true) ∧ RowKit.Below W.heap.size W w') := fun W hb => (right_call l v A W (hv.sl.below hb) (hE.below hb).er).mono fun e w' ⟨h1, h2⟩ => ⟨by rw [h1, hr], h2.below⟩
  have HM : Hid (∀ W, RowKit.Below w.heap.size w W → Calls Tryd.prog 38 #[v] W fun e w' => e = .returned (.int .u64 q) ∧ RowKit.Below W.heap.size W w') := fun W hb => by
    have := mask_call l v (A 4) W (hv.sl.below hb) ((rightB_iff l).1 hr).2 (hE.below hb).er.k hlen
    rwa [hm] at this
  have HV := Lib.hid hv
  have hOk := ent_of (h := (h1, h2)) hr hm
  have HRi := Lib.hid ((rightB_iff l).1 hr)
  have HLT := Lib.hid h.lt
  have hlenT := fun W M' (hT : Tab W M' pt q (R ++ [((h1, h2), l)])) => tlen_call hT
  obtain ⟨ph, pm, f, hT, hq, hfk, hok, hl128⟩ := h
  have HP : Hid (∀ W vl, RowKit.Below w.heap.size w W → Sl encH W vl [(h1, h2)] → Calls Tryd.prog 39 #[ptP ph, vl] W fun e w' => e = .returned .nilIface ∧ TabM w' (New M W w') pt ph pm q f ((R ++ [((h1, h2), l)]).map fun r => r.1) (colI R l 0) ∧ Tch (Mc M pt pm) W w') := fun W vl hb hs => by
    rw [colI_zero, List.map_append, List.map_cons, List.map_nil]
    exact (hT.below hb).askH (P := fun e => e = .returned .nilIface) fun MH hH => pushH_yes hH [(h1, h2)] vl hs (by decide) (by decide) (by simp; omega) (by simp; omega)
  have HEnd : Hid (∀ W M', TabM W M' pt ph pm q f ((R ++ [((h1, h2), l)]).map fun r => r.1) (colI R l l.length) → Tab W M' pt q (R ++ [((h1, h2), l)])) := fun W M' hT => by
    refine ⟨ph, pm, f, hT.congr rfl (fun k hk => colI_end hOk (by rw [hfk] at hk; exact of_decide_eq_true hk)), hq, hfk, fun r hr => ?_, by simp; omega⟩
    rcases List.mem_append.1 hr with c | c
    · exact hok r c
    · rw [List.mem_singleton.1 c]; exact hOk
  have HF : Hid (∀ x ∈ l, ∃ g, f x.1 = some g) := fun x hx => Option.isSome_iff_exists.1 (by
    rw [hfk]
    refine decide_eq_true ?_
    have := hOk.1
    dsimp only at this
    rw [← this]
    exact List.mem_map_of_mem hx)
  have HRl : Hid (∀ k, (colK R k).length = R.length) := fun k => colK_len R k
  have HLen : Hid (∀ W M', Tab W M' pt q (R ++ [((h1, h2), l)]) → Calls Tryd.prog 22 #[ptP pt] W fun e w' => e = .returned (.int .i64 ((R.length + 1 : Nat) : Int)) ∧ W = w') := fun W M' hT => by
    have := hlenT W M' hT
    rwa [List.length_append, List.length_singleton] at this
  have HT := Lib.hid hT
  have HBIG := Lib.hid hlen
  clear hT hfk hok hE hr hm hOk hlenT hv hlen
  generalize hR' : R ++ [((h1, h2), l)] = R' at *
  generalize hH' : (R'.map fun r => r.1) = H' at *
  clear hR' hH'
  obtain ⟨p, cap, rfl, _, _, _⟩ := HV.out
  obtain ⟨W0, hW0⟩ : ∃ W0, W0 = w.alloc (.cells #[.int .i64 h1, .int .i64 h2] 38) := ⟨_, rfl⟩
  have B0 := Lib.hid (show RowKit.Below w.heap.size w W0 by rw [hW0]; exact Ba (Below.refl _ w) _)
  obtain ⟨⟨c0, c1, c2⟩, f0, f1, f2⟩ := three_cells (HT.out.below B0.out).head
  have bb := Lib.hid (show W0.heap[w.heap.size]? = some (.cells #[.int .i64 h1, .int .i64 h2] 38 (0, 0)) by rw [hW0]; exact heap_alloc_new w _)
  have hl := cell_lt c0
  go_enter Tryd.func11, Tryd.ntmps11
  go_wp2_with fail
  rw [← hW0]
  clear hW0
  refine wp_region_held_drew (S := (fun w' => Below (W0).heap.size (W0) w' ∧ ∀ b_1 o, b_1 < (W0).heap.size → w'.cell? ⟨b_1, o, none⟩ = (W0).cell? ⟨b_1, o, none⟩)) (by kernel_rfl) (keep0 _) (fun hHeld => ?_)
  (refine wpAnyH_take (i := 0) (v := ?_) rfl (by kernel_rfl) (by kernel_rfl) (by kernel_rfl) (fun _ _ _ h => h) (Or.inl ⟨by rfl, ?rt⟩) (by assumption) ?_; case rt => (intro w hSw; (try dsimp only at hSw); go_simp; (try with_reducible rfl))); (try simp only [Act.put, List.getElem_toArray, List.getElem_cons_succ, List.getElem_cons_zero, List.setIfInBounds_toArray, List.set_cons_zero, List.set_cons_succ])
  (refine wpAnyH_ready (rs := [1]) (by kernel_rfl) (by simp) ?_; refine AllReadyH.cons rfl (fun K hK => ?_) AllReadyH.nil; go_simp; refine (HR.out _ (Bd B0.out)).mono ?_; rintro e w1 ⟨rfl, hb1⟩; refine hK.out _ _ (keepB (by assumption) hb1) (fun hHeld => ?_); clear hK K); (try simp only [Act.put, List.getElem_toArray, List.getElem_cons_succ, List.getElem_cons_zero, List.setIfInBounds_toArray, List.set_cons_zero, List.set_cons_succ])
  (refine wpAnyH_take (i := 2) (v := ?_) rfl (by kernel_rfl) (by kernel_rfl) (by kernel_rfl) (fun _ _ _ h => h) (Or.inl ⟨by rfl, ?rt⟩) (by assumption) ?_; case rt => (intro w hSw; (try dsimp only at hSw); go_simp; (try with_reducible rfl))); (try simp only [Act.put, List.getElem_toArray, List.getElem_cons_succ, List.getElem_cons_zero, List.setIfInBounds_toArray, List.set_cons_zero, List.set_cons_succ])
  (refine wpAnyH_take (i := 3) (v := ?_) rfl (by kernel_rfl) (by kernel_rfl) (by kernel_rfl) (fun _ _ _ h => h) (Or.inl ⟨by rfl, ?rt⟩) (by assumption) ?_; case rt => (intro w hSw; (try dsimp only at hSw); go_simp; (try with_reducible rfl))); (try simp only [Act.put, List.getElem_toArray, List.getElem_cons_succ, List.getElem_cons_zero, List.setIfInBounds_toArray, List.set_cons_zero, List.set_cons_succ])
  (refine wpAnyH_take (i := 4) (v := ?_) rfl (by kernel_rfl) (by kernel_rfl) (by kernel_rfl) (fun _ _ _ h => h) (Or.inl ⟨by rfl, ?rt⟩) (by assumption) ?_; case rt => (intro w hSw; (try dsimp only at hSw); go_simp; (try with_reducible rfl))); (try simp only [Act.put, List.getElem_toArray, List.getElem_cons_succ, List.getElem_cons_zero, List.setIfInBounds_toArray, List.set_cons_zero, List.set_cons_succ])
  (refine wpAnyH_take (i := 6) (v := ?_) rfl (by kernel_rfl) (by kernel_rfl) (by kernel_rfl) (fun _ _ _ h => h) (Or.inl ⟨by rfl, ?rt⟩) (by assumption) ?_; case rt => (intro w hSw; (try dsimp only at hSw); go_simp; (try with_reducible rfl))); (try simp only [Act.put, List.getElem_toArray, List.getElem_cons_succ, List.getElem_cons_zero, List.setIfInBounds_toArray, List.set_cons_zero, List.set_cons_succ])
  (refine wpAnyH_take (i := 7) (v := ?_) rfl (by kernel_rfl) (by kernel_rfl) (by kernel_rfl) (fun _ _ _ h => h) (Or.inl ⟨by rfl, ?rt⟩) (by assumption) ?_; case rt => (intro w hSw; (try dsimp only at hSw); go_simp; (try with_reducible rfl))); (try simp only [Act.put, List.getElem_toArray, List.getElem_cons_succ, List.getElem_cons_zero, List.setIfInBounds_toArray, List.set_cons_zero, List.set_cons_succ])
  (refine wpAnyH_take (i := 8) (v := ?_) rfl (by kernel_rfl) (by kernel_rfl) (by kernel_rfl) (fun _ _ _ h => h) (Or.inl ⟨by rfl, ?rt⟩) (by assumption) ?_; case rt => (intro w hSw; (try dsimp only at hSw); go_simp; (try with_reducible rfl))); (try simp only [Act.put, List.getElem_toArray, List.getElem_cons_succ, List.getElem_cons_zero, List.setIfInBounds_toArray, List.set_cons_zero, List.set_cons_succ])
  (refine wpAnyH_take (i := 9) (v := ?_) rfl (by kernel_rfl) (by kernel_rfl) (by kernel_rfl) (fun _ _ _ h => h) (Or.inl ⟨by rfl, ?rt⟩) (by assumption) ?_; case rt => (intro w hSw; (try dsimp only at hSw); go_simp; (try with_reducible rfl))); (try simp only [Act.put, List.getElem_toArray, List.getElem_cons_succ, List.getElem_cons_zero, List.setIfInBounds_toArray, List.set_cons_zero, List.set_cons_succ])
  (refine wpAnyH_ready (rs := [5]) (by kernel_rfl) (by simp) ?_; refine AllReadyH.cons rfl (fun K hK => ?_) AllReadyH.nil; go_simp; refine (HM.out _ (Bt B0.out hHeld.1)).mono ?_; rintro e w1 ⟨rfl, hb1⟩; refine hK.out _ _ (keepB (by assumption) hb1) (fun hHeld => ?_); clear hK K); (try simp only [Act.put, List.getElem_toArray, List.getElem_cons_succ, List.getElem_cons_zero, List.setIfInBounds_toArray, List.set_cons_zero, List.set_cons_succ])
  (refine wpAnyH_take (i := 10) (v := ?_) rfl (by kernel_rfl) (by kernel_rfl) (by kernel_rfl) (fun _ _ _ h => h) (Or.inl ⟨by rfl, ?rt⟩) (by assumption) ?_; case rt => (intro w hSw; (try dsimp only at hSw); go_simp; (try with_reducible rfl))); (try simp only [Act.put, List.getElem_toArray, List.getElem_cons_succ, List.getElem_cons_zero, List.setIfInBounds_toArray, List.set_cons_zero, List.set_cons_succ])
  (refine wpAnyH_take (i := 11) (v := ?_) rfl (by kernel_rfl) (by kernel_rfl) (by kernel_rfl) (fun _ _ _ h => h) (Or.inl ⟨by rfl, ?rt⟩) (by assumption) ?_; case rt => (intro w hSw; (try dsimp only at hSw); go_simp; (try with_reducible rfl))); (try simp only [Act.put, List.getElem_toArray, List.getElem_cons_succ, List.getElem_cons_zero, List.setIfInBounds_toArray, List.set_cons_zero, List.set_cons_succ])
  refine wpAnyH_done (by kernel_rfl) ?_ _
  have B1 := Lib.hid (Bt B0.out hHeld.1)
  have K1 := Lib.hid hHeld.1
  clear c0 c1 c2 f0 f1 f2 hl hHeld hb1 HR HM
  go_wp2_with fail
  obtain ⟨⟨c0, c1, c2⟩, f0, f1, f2⟩ := three_cells (HT.out.below B1.out).head
  have hl := cell_lt c0
  have b1 := blk_below bb.out K1.out
  obtain ⟨d0, d1, _, _⟩ := two_cells b1
  have hl2 := cell_lt d0
  have hs0 : SH pt ph w.heap.size h1 h2 w1.drew := ⟨c0, d0, d1⟩
  have hs1 : ∀ o, SH pt ph w.heap.size h1 h2 (w1.drew.alloc o) := fun o => ⟨Bc (Ba (Bd (Below.refl _ w1)) o) hl c0, Bc (Ba (Bd (Below.refl _ w1)) o) hl2 d0, Bc (Ba (Bd (Below.refl _ w1)) o) hl2 d1⟩
  have hnb : ¬ Mc M pt pm w.heap.size := fun e => by have := HLT.out _ e.1; omega
  have hs2 : ∀ o w', Tch (Mc M pt pm) (w1.drew.alloc o) w' → SH pt ph w.heap.size h1 h2 w' := fun o w' hb => ⟨hb.cell (cell_lt (hs1 o).1) (fun e => e.2.1 rfl) (hs1 o).1, hb.cell (cell_lt (hs1 o).2.1) hnb (hs1 o).2.1, hb.cell (cell_lt (hs1 o).2.2) hnb (hs1 o).2.2⟩
  unfold SH at *
  refine wp_region_held_drew (S := fun w' => w'.cell? ⟨pt, 0, none⟩ = some (.pointer (some ⟨ph, 0, none⟩)) ∧ w'.cell? ⟨w.heap.size, 0, none⟩ = some (.int .i64 h1) ∧ w'.cell? ⟨w.heap.size, 1, none⟩ = some (.int .i64 h2)) (by kernel_rfl) (hs0) (fun hHeld => ?_)
  (refine wpAnyH_take (i := 0) (v := ?_) rfl (by kernel_rfl) (by kernel_rfl) (by kernel_rfl) (fun _ _ _ h => h) (Or.inl ⟨by rfl, ?rt⟩) (by assumption) ?_; case rt => (intro w hSw; (try dsimp only at hSw); go_simp; (try with_reducible rfl))); (try simp only [Act.put, List.getElem_toArray, List.getElem_cons_succ, List.getElem_cons_zero, List.setIfInBounds_toArray, List.set_cons_zero, List.set_cons_succ])
  (refine wpAnyH_take (i := 1) (v := ?_) rfl (by kernel_rfl) (by kernel_rfl) (by kernel_rfl) (fun _ _ _ h => h) (Or.inl ⟨by rfl, ?rt⟩) (by assumption) ?_; case rt => (intro w hSw; (try dsimp only at hSw); go_simp; (try with_reducible rfl))); (try simp only [Act.put, List.getElem_toArray, List.getElem_cons_succ, List.getElem_cons_zero, List.setIfInBounds_toArray, List.set_cons_zero, List.set_cons_succ])
  (refine wpAnyH_take (i := 2) (v := ?_) rfl (by kernel_rfl) (by kernel_rfl) (by kernel_rfl) (fun _ _ _ h => h) (Or.inl ⟨by rfl, ?rt⟩) (by assumption) ?_; case rt => (intro w hSw; (try dsimp only at hSw); go_simp; (try with_reducible rfl))); (try simp only [Act.put, List.getElem_toArray, List.getElem_cons_succ, List.getElem_cons_zero, List.setIfInBounds_toArray, List.set_cons_zero, List.set_cons_succ])
  (refine wpAnyH_take (i := 3) (v := ?_) rfl (by kernel_rfl) (by kernel_rfl) (by kernel_rfl) (fun _ _ _ h => h) (Or.inl ⟨by rfl, ?rt⟩) (by assumption) ?_; case rt => (intro w hSw; (try dsimp only at hSw); go_simp; (try with_reducible rfl))); (try simp only [Act.put, List.getElem_toArray, List.getElem_cons_succ, List.getElem_cons_zero, List.setIfInBounds_toArray, List.set_cons_zero, List.set_cons_succ])
  (refine wpAnyH_take (i := 4) (v := ?_) rfl (by kernel_rfl) (by kernel_rfl) (by kernel_rfl) (fun _ _ _ h => h) (Or.inl ⟨by rfl, ?rt⟩) (by assumption) ?_; case rt => (intro w hSw; (try dsimp only at hSw); go_simp; (try with_reducible rfl))); (try simp only [Act.put, List.getElem_toArray, List.getElem_cons_succ, List.getElem_cons_zero, List.setIfInBounds_toArray, List.set_cons_zero, List.set_cons_succ])
  refine wpAnyH_ready (rs := [5]) (by kernel_rfl) (by simp) ?_; refine (AllReadyH.cons rfl (fun K hK => ?_) AllReadyH.nil)
  go_simp; refine hK.out _ _ (hs1 _) (fun hHeld => ?_); clear hK K; (try simp only [Act.put, List.getElem_toArray, List.getElem_cons_succ, List.getElem_cons_zero, List.setIfInBounds_toArray, List.set_cons_zero, List.set_cons_succ])
  refine wpAnyH_ready (rs := [6]) (by kernel_rfl) (by simp) ?_; refine (AllReadyH.cons rfl (fun K hK => ?_) AllReadyH.nil)
  go_simp; refine (HP.out _ _ (Ba (Bd B1.out) _) (sl_lit (enc := encH) (cs := #[.int .i64 h1, .int .i64 h2]) (t := 38) [(h1, h2)] (by simp) rfl (by unfold maxLen; simp))).mono ?_; rintro e w3 ⟨rfl, hT3, ht3⟩; refine hK.out _ _ (hs2 _ _ ht3) (fun hHeld => ?_); clear hK K; (try simp only [Act.put, List.getElem_toArray, List.getElem_cons_succ, List.getElem_cons_zero, List.setIfInBounds_toArray, List.set_cons_zero, List.set_cons_succ])
  (refine wpAnyH_take (i := 7) (v := ?_) rfl (by kernel_rfl) (by kernel_rfl) (by kernel_rfl) (fun _ _ _ h => h) (Or.inl ⟨by rfl, ?rt⟩) (by assumption) ?_; case rt => (intro w hSw; (try dsimp only at hSw); go_simp; (try with_reducible rfl))); (try simp only [Act.put, List.getElem_toArray, List.getElem_cons_succ, List.getElem_cons_zero, List.setIfInBounds_toArray, List.set_cons_zero, List.set_cons_succ])
  refine wpAnyH_done (by kernel_rfl) ?_ _
  have T3 := Lib.hid ((Tch.of (Ba (Bd B1.out) (.cells #[.int .i64 h1, .int .i64 h2] 38)) : Tch M w _).more (ht3.mono Mc.of))
  have N3 := Lib.hid (fun b (e : New M (w1.drew.alloc (.cells #[.int .i64 h1, .int .i64 h2] 38)) w3 b) => (show New M w w3 b from e.imp id (fun e => ⟨by have := (Ba (Bd B1.out) (.cells #[.int .i64 h1, .int .i64 h2] 38)).size; omega, e.2⟩)))
  have HT3 := Lib.hid hT3
  clear hT3 ht3 hHeld hs0 hs1 hs2 hnb d0 d1 hl2 b1 c0 c1 c2 f0 f1 f2 hl K1 bb B1 B0 HP
  generalize New M (w1.drew.alloc (.cells #[.int .i64 h1, .int .i64 h2] 38)) w3 = M3 at *
  have hbl : l.length ≤ 9223372036854775807 := by have := HBIG.out; omega
  go_wp2
  go_loopg [36] l.length (fun gk s36 wr => ∃ (i : Nat) (M' : Nat → Prop), s36 = .int .i64 i ∧ i ≤ l.length ∧ l.length - i ≤ gk ∧ Hid (TabM wr M' pt ph pm q f H' (colI R l i)) ∧ Hid (∀ b, M' b → New M w wr b) ∧ Hid (Tch M w wr))
  case atStart => exact ⟨0, M3, rfl, Nat.zero_le _, by omega, HT3, N3, T3⟩
  case round =>
    obtain ⟨i, M', rfl, hi, hgk, HTr, HN, Tr⟩ := hrel
    by_cases hin : i < l.length
    · have SV := HV.out.kept Tr.out (fun b e => e.2)
      obtain ⟨p', c', e', _, _, hsv⟩ := SV
      obtain ⟨g, o, e3, hg1, hgN, hg2⟩ := hsv (by omega)
      simp only [Value.slice.injEq] at e'
      obtain ⟨rfl, _, rfl⟩ := e'
      subst e3
      obtain ⟨d1, d2, d3⟩ := atV hg2 hin
      have hxe : l[i]! = l[i] := getElem!_pos l i hin
      obtain ⟨gc, hgc⟩ := HF.out _ (List.getElem_mem hin)
      have ST := Lib.hid (colI_step (R := R) HRi.out hin)
      have CH := Lib.hid (colI_here (R := R) HRi.out.1 hin)
      have hkk := (kindB_iff _).1 (chk_kind (HRi.out.2 _ (List.getElem_mem hin)))
      rw [hxe] at d1 d2 d3
      generalize l[i] = x at *
      obtain ⟨x1, x2, x3⟩ := x
      dsimp only at d1 d2 d3 hgc ST CH hkk
      obtain ⟨W4, hW4⟩ : ∃ W4, W4 = wr.alloc (.cells #[.int .i64 x1, .int .i64 x2, .int .i64 x3] 41) := ⟨_, rfl⟩
      have BB := Lib.hid (show RowKit.Below wr.heap.size wr W4 by rw [hW4]; exact Ba (Below.refl _ wr) _)
      have b4 := Lib.hid (show W4.heap[wr.heap.size]? = some (.cells #[.int .i64 x1, .int .i64 x2, .int .i64 x3] 41 (0, 0)) by rw [hW4]; exact heap_alloc_new wr _)
      have HT4 := Lib.hid (HTr.out.below BB.out)
      have T4 := Lib.hid (Tr.out.bel BB.out)
      obtain ⟨⟨c0, c1, c2⟩, f0, f1, f2⟩ := three_cells HT4.out.head
      obtain ⟨⟨z0, z1, z2⟩, _, _, _⟩ := three_cells b4.out
      have hl := cell_lt c0
      have hlz := cell_lt z0
      have hkw : (Lit.int .i64 x1).wf = true := WalkArith.wf_i64 (by omega)
      have FC : Hid (∀ W vl, RowKit.Below W4.heap.size W4 W → Sl encV W vl [(x1, x2, x3)] → Calls Tryd.prog 40 #[ptP gc, vl] W fun e w' => e = .returned .nilIface ∧ TabM w' (New M' W w') pt ph pm q f H' (colI R l (i + 1)) ∧ Tch (Mc M' pt pm) W w') := fun W vl hb hs => by
        have := (HT4.out.below hb).askC hgc (P := fun e => e = .returned .nilIface) (L' := colK R x1 ++ [(x1, x2, x3)]) (fn := 40) (args := #[ptP gc, vl]) fun MC hC => by
          rw [CH.out] at hC
          exact pushV_yes hC [(x1, x2, x3)] vl hs (by decide) (by decide) (by rw [HRl.out]; simp; omega) (by rw [HRl.out]; simp; omega)
        refine this.mono fun e w' ⟨h1, h2, h3⟩ => ⟨h1, h2.congr rfl (fun k _ => ST.out k), h3⟩
      have hM4 : ∀ b, M' b → b < wr.heap.size := HTr.out.lt
      have hs0 : SV pt pm wr.heap.size gc x1 x2 x3 W4.drew := ⟨c1, z0, z1, z2, HT4.out.map.below (Bd (Below.refl _ _)) |>.look x1 hkw |> fun e => by rw [hgc] at e; exact e⟩
      have hs1 : ∀ o, SV pt pm wr.heap.size gc x1 x2 x3 (W4.drew.alloc o) := fun o => ⟨Bc (Ba (Bd (Below.refl _ W4)) o) hl c1, Bc (Ba (Bd (Below.refl _ W4)) o) hlz z0, Bc (Ba (Bd (Below.refl _ W4)) o) hlz z1, Bc (Ba (Bd (Below.refl _ W4)) o) hlz z2, HT4.out.map.below (Ba (Bd (Below.refl _ _)) o) |>.look x1 hkw |> fun e => by rw [hgc] at e; exact e⟩
      have hnb : ¬ Mc M' pt pm wr.heap.size := fun e => by have := hM4 _ e.1; omega
      have hs2 : ∀ o w', TabM w' (New M' (W4.drew.alloc o) w') pt ph pm q f H' (colI R l (i + 1)) → Tch (Mc M' pt pm) (W4.drew.alloc o) w' → SV pt pm wr.heap.size gc x1 x2 x3 w' := fun o w' hT hb => ⟨hb.cell (cell_lt (hs1 o).1) (fun e => e.2.1 rfl) (hs1 o).1, hb.cell (cell_lt (hs1 o).2.1) hnb (hs1 o).2.1, hb.cell (cell_lt (hs1 o).2.1) hnb (hs1 o).2.2.1, hb.cell (cell_lt (hs1 o).2.1) hnb (hs1 o).2.2.2.1, hT.map.look x1 hkw |> fun e => by rw [hgc] at e; exact e⟩
      have BT := Lib.hid BB.out.size
      clear hgN hsv hg2 hxe
      go_wp2_with fail
      rw [← hW4]
      clear hW4 d1 d2 d3
      unfold SV at *
      refine wp_region_held_drew (S := fun w' => w'.cell? ⟨pt, 1, none⟩ = some (.map (some pm)) ∧ w'.cell? ⟨wr.heap.size, 0, none⟩ = some (.int .i64 x1) ∧ w'.cell? ⟨wr.heap.size, 1, none⟩ = some (.int .i64 x2) ∧ w'.cell? ⟨wr.heap.size, 2, none⟩ = some (.int .i64 x3) ∧ (Instr.lookup MapTy (.map (some pm)) (.int .i64 x1) false).run Tryd.prog w' = .ok (.pointer (some ⟨gc, 0, none⟩)) w') (by kernel_rfl) (hs0) (fun hHeld => ?_)
      (refine wpAnyH_take (i := 0) (v := ?_) rfl (by kernel_rfl) (by kernel_rfl) (by kernel_rfl) (fun _ _ _ h => h) (Or.inl ⟨by rfl, ?rt⟩) (by assumption) ?_; case rt => (intro w hSw; (try dsimp only at hSw); go_simp; (try with_reducible rfl))); (try simp only [Act.put, List.getElem_toArray, List.getElem_cons_succ, List.getElem_cons_zero, List.setIfInBounds_toArray, List.set_cons_zero, List.set_cons_succ])
      (refine wpAnyH_take (i := 1) (v := ?_) rfl (by kernel_rfl) (by kernel_rfl) (by kernel_rfl) (fun _ _ _ h => h) (Or.inl ⟨by rfl, ?rt⟩) (by assumption) ?_; case rt => (intro w hSw; (try dsimp only at hSw); go_simp; (try with_reducible rfl))); (try simp only [Act.put, List.getElem_toArray, List.getElem_cons_succ, List.getElem_cons_zero, List.setIfInBounds_toArray, List.set_cons_zero, List.set_cons_succ])
      (refine wpAnyH_take (i := 2) (v := ?_) rfl (by kernel_rfl) (by kernel_rfl) (by kernel_rfl) (fun _ _ _ h => h) (Or.inl ⟨by rfl, ?rt⟩) (by assumption) ?_; case rt => (intro w hSw; (try dsimp only at hSw); go_simp; (try with_reducible rfl))); (try simp only [Act.put, List.getElem_toArray, List.getElem_cons_succ, List.getElem_cons_zero, List.setIfInBounds_toArray, List.set_cons_zero, List.set_cons_succ])
      (refine wpAnyH_take (i := 3) (v := ?_) rfl (by kernel_rfl) (by kernel_rfl) (by kernel_rfl) (fun _ _ _ h => h) (Or.inl ⟨by rfl, ?rt⟩) (by assumption) ?_; case rt => (intro w hSw; (try dsimp only at hSw); go_simp; (try with_reducible rfl))); (try simp only [Act.put, List.getElem_toArray, List.getElem_cons_succ, List.getElem_cons_zero, List.setIfInBounds_toArray, List.set_cons_zero, List.set_cons_succ])
      (refine wpAnyH_take (i := 4) (v := ?_) rfl (by kernel_rfl) (by kernel_rfl) (by kernel_rfl) (fun _ _ _ h => h) (Or.inl ⟨by rfl, ?rt⟩) (by assumption) ?_; case rt => (intro w hSw; (try dsimp only at hSw); go_simp; (try with_reducible rfl))); (try simp only [Act.put, List.getElem_toArray, List.getElem_cons_succ, List.getElem_cons_zero, List.setIfInBounds_toArray, List.set_cons_zero, List.set_cons_succ])
      (refine wpAnyH_take (i := 5) (v := ?_) rfl (by kernel_rfl) (by kernel_rfl) (by kernel_rfl) (fun _ _ _ h => h) (Or.inl ⟨by rfl, ?rt⟩) (by assumption) ?_; case rt => (intro w hSw; (try dsimp only at hSw); go_simp; (try with_reducible rfl))); (try simp only [Act.put, List.getElem_toArray, List.getElem_cons_succ, List.getElem_cons_zero, List.setIfInBounds_toArray, List.set_cons_zero, List.set_cons_succ])
      (refine wpAnyH_take (i := 6) (v := ?_) rfl (by kernel_rfl) (by kernel_rfl) (by kernel_rfl) (fun _ _ _ h => h) (Or.inl ⟨by rfl, ?rt⟩) (by assumption) ?_; case rt => (intro w hSw; (try dsimp only at hSw); go_simp; (try with_reducible rfl))); (try simp only [Act.put, List.getElem_toArray, List.getElem_cons_succ, List.getElem_cons_zero, List.setIfInBounds_toArray, List.set_cons_zero, List.set_cons_succ])
      (refine wpAnyH_take (i := 7) (v := ?_) rfl (by kernel_rfl) (by kernel_rfl) (by kernel_rfl) (fun _ _ _ h => h) (Or.inl ⟨by rfl, ?rt⟩) (by assumption) ?_; case rt => (intro w hSw; (try dsimp only at hSw); go_simp; (try with_reducible rfl))); (try simp only [Act.put, List.getElem_toArray, List.getElem_cons_succ, List.getElem_cons_zero, List.setIfInBounds_toArray, List.set_cons_zero, List.set_cons_succ])
      refine wpAnyH_ready (rs := [8]) (by kernel_rfl) (by simp) ?_; refine (AllReadyH.cons rfl (fun K hK => ?_) AllReadyH.nil)
      go_simp; refine hK.out _ _ (hs1 _) (fun hHeld => ?_); clear hK K; (try simp only [Act.put, List.getElem_toArray, List.getElem_cons_succ, List.getElem_cons_zero, List.setIfInBounds_toArray, List.set_cons_zero, List.set_cons_succ])
      refine wpAnyH_ready (rs := [9]) (by kernel_rfl) (by simp) ?_; refine (AllReadyH.cons rfl (fun K hK => ?_) AllReadyH.nil)
      go_simp; refine (FC.out _ _ (Ba (Bd (Below.refl _ _)) _) (sl_lit (enc := encV) (cs := #[.int .i64 x1, .int .i64 x2, .int .i64 x3]) (t := 41) [(x1, x2, x3)] (by simp) rfl (by unfold maxLen; simp))).mono ?_; rintro e w3 ⟨rfl, hT3, ht3⟩; refine hK.out _ _ (hs2 _ _ hT3 ht3) (fun hHeld => ?_); clear hK K; (try simp only [Act.put, List.getElem_toArray, List.getElem_cons_succ, List.getElem_cons_zero, List.setIfInBounds_toArray, List.set_cons_zero, List.set_cons_succ])
      refine wpAnyH_done (by kernel_rfl) ?_ _
      go_wp2
      go_roundg (l.length - (i + 1))
      case measure => omega
      case rel =>
        have hsz4 : wr.heap.size ≤ (W4.drew.alloc (.cells #[.int .i64 x1, .int .i64 x2, .int .i64 x3] 41)).heap.size := Nat.le_trans BT.out (Ba (Bd (Below.refl _ W4)) (.cells #[.int .i64 x1, .int .i64 x2, .int .i64 x3] 41)).size
        refine ⟨i + 1, New M' (W4.drew.alloc (.cells #[.int .i64 x1, .int .i64 x2, .int .i64 x3] 41)) w3, by go_num, hin, Nat.le_refl _, hT3, fun b e => ?_, ?_⟩
        · rcases e with e | e
          · exact (HN.out b e).imp id (fun e => ⟨e.1, Nat.lt_of_lt_of_le e.2 (Nat.le_trans hsz4 ht3.size)⟩)
          · exact .inr ⟨Nat.le_trans Tr.out.size (Nat.le_trans hsz4 e.1), e.2⟩
        · have t1 := T4.out.bel (Ba (Bd (Below.refl _ W4)) (.cells #[.int .i64 x1, .int .i64 x2, .int .i64 x3] 41))
          refine ⟨ht3.os.trans t1.os, ht3.tape.trans t1.tape, ht3.output.trans t1.output, Nat.le_trans t1.size ht3.size, fun b h1 h2 => (ht3.block b (Nat.lt_of_lt_of_le h1 t1.size) (fun e => ?_)).trans (t1.block b h1 h2)⟩
          exact (HN.out b e.1).elim h2 (fun c => by omega)
    · have hii : i = l.length := by omega
      subst hii
      have HT5 := HEnd.out _ _ HTr.out
      have FL := Lib.hid (HLen.out _ _ HT5)
      have E5 := Lib.hid (HT5.mono (M' := New M w wr) HN.out (New.lt HLT.out Tr.out.size))
      clear HT5
      go_wp2_with fail
      refine FL.out.mono ?_
      rintro e w5 ⟨rfl, rfl⟩
      go_wp2
      go_ret2
      exact ⟨by simp, E5.out, Tr.out⟩
end
end Go.Proofs.YtknfmjjlfhfocaaDoor
