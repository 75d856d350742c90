import Derived.Test.YtaehendpdfpibaaGreatDoorZ6
import Derived.Carry
import Derived.Test.YtaehendpdfpibaaGreatDoorZ4

/-
  The table's Add, where it is full and where it puts (written by mkadd.py).
-/
namespace Go.Proofs.YtaehendpdfpibaaGreatDoor
set_option linter.unusedSimpArgs false
set_option linter.unusedVariables false
open Go.RowKit Go.Sort Go.Lib Go.Shelf

section
variable {w : World} {M : Nat → Prop} {pt q : Nat} {R : List En} {A : Nat → Addr}
/-- The first region, where the row is right and of the mask: what it does not change. -/
def SV (pt pm b gc : Nat) (x1 x2 x3 : Int) (w' : World) : Prop := w'.cell? ⟨pt, 1, none⟩ = some (.map (some pm)) ∧ w'.cell? ⟨b, 0, none⟩ = some (.int .i64 x1) ∧ w'.cell? ⟨b, 1, none⟩ = some (.int .i64 x2) ∧ w'.cell? ⟨b, 2, none⟩ = some (.int .i64 x3) ∧ (Instr.lookup MapTy (.map (some pm)) (.int .i64 x1) false).run Tryz.prog w' = .ok (.pointer (some ⟨gc, 0, none⟩)) w'
def SH (pt ph b : Nat) (h1 h2 : Int) (w' : World) : Prop := w'.cell? ⟨pt, 0, none⟩ = some (.pointer (some ⟨ph, 0, none⟩)) ∧ w'.cell? ⟨b, 0, none⟩ = some (.int .i64 h1) ∧ w'.cell? ⟨b, 1, none⟩ = some (.int .i64 h2)
set_option maxHeartbeats 2000000 in
set_option maxRecDepth 100000 in
theorem tadd_full (h : Tab w M pt q R) (h1 h2 : Int) (l : List Vl) (v : Value) (hv : Sl encV w v l) (hlen : l.length ≤ 100000) (hr : rightB l = true) (hm : maskV l = q) (hf : R.length = 128) (hE : Er7 w A) : Calls Tryz.prog 118 #[ptP pt, .agg #[.int .i64 h1, .int .i64 h2], v] w fun e w' => e = .returned (zErr A 1) ∧ RowKit.Below w.heap.size w w' := by
  have HR : Hid (∀ W, RowKit.Below w.heap.size w W → Calls Tryz.prog 71 #[v] W fun e w' => e = .returned (.bool true) ∧ RowKit.Below W.heap.size W w') := fun W hb => (right_call l v A W (hv.below hb) (hE.below hb).er).mono fun e w' ⟨h1, h2⟩ => ⟨by rw [h1, hr], h2.below⟩
  have HM : Hid (∀ W, RowKit.Below w.heap.size w W → Calls Tryz.prog 66 #[v] W fun e w' => e = .returned (.int .u64 q) ∧ RowKit.Below W.heap.size W w') := fun W hb => by
    have := mask_call l v (A 4) W (hv.below hb) ((rightB_iff l).1 hr).2 (hE.below hb).er.k hlen
    rwa [hm] at this
  obtain ⟨p, cap, rfl, _, _, _⟩ := hv
  obtain ⟨ph, pm, f, hT, _⟩ := h
  obtain ⟨MH, hH⟩ := hT.handles
  have HP : Hid (∀ W vl, RowKit.Below w.heap.size w W → Sl encH W vl [(h1, h2)] → Calls Tryz.prog 154 #[ptP ph, vl] W fun e w' => e = .returned (errC A 1) ∧ RowKit.Below W.heap.size W w') := fun W vl hb hs =>
    pushH_no (hH.below hb) [(h1, h2)] vl hs (by decide) (by decide) (by simp [hf]) _ _ (hE.below hb).full
  clear hE hr hm hH
  unfold zErr errC at *
  generalize A 1 = ea at *
  obtain ⟨W0, hW0⟩ : ∃ W0, W0 = w.alloc (.cells #[.int .i64 h1, .int .i64 h2] 31) := ⟨_, rfl⟩
  have B0 := Lib.hid (show RowKit.Below w.heap.size w W0 by rw [hW0]; exact Ba (Below.refl _ w) _)
  obtain ⟨⟨c0, c1, c2⟩, f0, f1, f2⟩ := three_cells (hT.below B0.out).head
  have bb := Lib.hid (show W0.heap[w.heap.size]? = some (.cells #[.int .i64 h1, .int .i64 h2] 31 (0, 0)) by rw [hW0]; exact heap_alloc_new w _)
  have HT := Lib.hid hT
  have hl := cell_lt c0
  clear hT hf
  go_enter Tryz.func118, Tryz.ntmps118
  go_wp2_with fail
  rw [← hW0]
  clear hW0
  refine wp_region_held_drew (S := (fun w' => Below (W0).heap.size (W0) w' ∧ ∀ b_1 o, b_1 < (W0).heap.size → w'.cell? ⟨b_1, o, none⟩ = (W0).cell? ⟨b_1, o, none⟩)) (by kernel_rfl) (keep0 _) (fun hHeld => ?_)
  (refine wpAnyH_take (i := 0) (v := ?_) rfl (by kernel_rfl) (by kernel_rfl) (by kernel_rfl) (fun _ _ _ h => h) (Or.inl ⟨by rfl, ?rt⟩) (by assumption) ?_; case rt => (intro w hSw; (try dsimp only at hSw); go_simp; (try with_reducible rfl))); (try simp only [Act.put, List.getElem_toArray, List.getElem_cons_succ, List.getElem_cons_zero, List.setIfInBounds_toArray, List.set_cons_zero, List.set_cons_succ])
  (refine wpAnyH_ready (rs := [1]) (by kernel_rfl) (by simp) ?_; refine AllReadyH.cons rfl (fun K hK => ?_) AllReadyH.nil; go_simp; refine (HR.out _ (Bd B0.out)).mono ?_; rintro e w1 ⟨rfl, hb1⟩; refine hK.out _ _ (keepB (by assumption) hb1) (fun hHeld => ?_); clear hK K); (try simp only [Act.put, List.getElem_toArray, List.getElem_cons_succ, List.getElem_cons_zero, List.setIfInBounds_toArray, List.set_cons_zero, List.set_cons_succ])
  (refine wpAnyH_take (i := 2) (v := ?_) rfl (by kernel_rfl) (by kernel_rfl) (by kernel_rfl) (fun _ _ _ h => h) (Or.inl ⟨by rfl, ?rt⟩) (by assumption) ?_; case rt => (intro w hSw; (try dsimp only at hSw); go_simp; (try with_reducible rfl))); (try simp only [Act.put, List.getElem_toArray, List.getElem_cons_succ, List.getElem_cons_zero, List.setIfInBounds_toArray, List.set_cons_zero, List.set_cons_succ])
  (refine wpAnyH_take (i := 3) (v := ?_) rfl (by kernel_rfl) (by kernel_rfl) (by kernel_rfl) (fun _ _ _ h => h) (Or.inl ⟨by rfl, ?rt⟩) (by assumption) ?_; case rt => (intro w hSw; (try dsimp only at hSw); go_simp; (try with_reducible rfl))); (try simp only [Act.put, List.getElem_toArray, List.getElem_cons_succ, List.getElem_cons_zero, List.setIfInBounds_toArray, List.set_cons_zero, List.set_cons_succ])
  (refine wpAnyH_take (i := 4) (v := ?_) rfl (by kernel_rfl) (by kernel_rfl) (by kernel_rfl) (fun _ _ _ h => h) (Or.inl ⟨by rfl, ?rt⟩) (by assumption) ?_; case rt => (intro w hSw; (try dsimp only at hSw); go_simp; (try with_reducible rfl))); (try simp only [Act.put, List.getElem_toArray, List.getElem_cons_succ, List.getElem_cons_zero, List.setIfInBounds_toArray, List.set_cons_zero, List.set_cons_succ])
  (refine wpAnyH_take (i := 6) (v := ?_) rfl (by kernel_rfl) (by kernel_rfl) (by kernel_rfl) (fun _ _ _ h => h) (Or.inl ⟨by rfl, ?rt⟩) (by assumption) ?_; case rt => (intro w hSw; (try dsimp only at hSw); go_simp; (try with_reducible rfl))); (try simp only [Act.put, List.getElem_toArray, List.getElem_cons_succ, List.getElem_cons_zero, List.setIfInBounds_toArray, List.set_cons_zero, List.set_cons_succ])
  (refine wpAnyH_take (i := 7) (v := ?_) rfl (by kernel_rfl) (by kernel_rfl) (by kernel_rfl) (fun _ _ _ h => h) (Or.inl ⟨by rfl, ?rt⟩) (by assumption) ?_; case rt => (intro w hSw; (try dsimp only at hSw); go_simp; (try with_reducible rfl))); (try simp only [Act.put, List.getElem_toArray, List.getElem_cons_succ, List.getElem_cons_zero, List.setIfInBounds_toArray, List.set_cons_zero, List.set_cons_succ])
  (refine wpAnyH_take (i := 8) (v := ?_) rfl (by kernel_rfl) (by kernel_rfl) (by kernel_rfl) (fun _ _ _ h => h) (Or.inl ⟨by rfl, ?rt⟩) (by assumption) ?_; case rt => (intro w hSw; (try dsimp only at hSw); go_simp; (try with_reducible rfl))); (try simp only [Act.put, List.getElem_toArray, List.getElem_cons_succ, List.getElem_cons_zero, List.setIfInBounds_toArray, List.set_cons_zero, List.set_cons_succ])
  (refine wpAnyH_take (i := 9) (v := ?_) rfl (by kernel_rfl) (by kernel_rfl) (by kernel_rfl) (fun _ _ _ h => h) (Or.inl ⟨by rfl, ?rt⟩) (by assumption) ?_; case rt => (intro w hSw; (try dsimp only at hSw); go_simp; (try with_reducible rfl))); (try simp only [Act.put, List.getElem_toArray, List.getElem_cons_succ, List.getElem_cons_zero, List.setIfInBounds_toArray, List.set_cons_zero, List.set_cons_succ])
  (refine wpAnyH_ready (rs := [5]) (by kernel_rfl) (by simp) ?_; refine AllReadyH.cons rfl (fun K hK => ?_) AllReadyH.nil; go_simp; refine (HM.out _ (Bt B0.out hHeld.1)).mono ?_; rintro e w1 ⟨rfl, hb1⟩; refine hK.out _ _ (keepB (by assumption) hb1) (fun hHeld => ?_); clear hK K); (try simp only [Act.put, List.getElem_toArray, List.getElem_cons_succ, List.getElem_cons_zero, List.setIfInBounds_toArray, List.set_cons_zero, List.set_cons_succ])
  (refine wpAnyH_take (i := 10) (v := ?_) rfl (by kernel_rfl) (by kernel_rfl) (by kernel_rfl) (fun _ _ _ h => h) (Or.inl ⟨by rfl, ?rt⟩) (by assumption) ?_; case rt => (intro w hSw; (try dsimp only at hSw); go_simp; (try with_reducible rfl))); (try simp only [Act.put, List.getElem_toArray, List.getElem_cons_succ, List.getElem_cons_zero, List.setIfInBounds_toArray, List.set_cons_zero, List.set_cons_succ])
  (refine wpAnyH_take (i := 11) (v := ?_) rfl (by kernel_rfl) (by kernel_rfl) (by kernel_rfl) (fun _ _ _ h => h) (Or.inl ⟨by rfl, ?rt⟩) (by assumption) ?_; case rt => (intro w hSw; (try dsimp only at hSw); go_simp; (try with_reducible rfl))); (try simp only [Act.put, List.getElem_toArray, List.getElem_cons_succ, List.getElem_cons_zero, List.setIfInBounds_toArray, List.set_cons_zero, List.set_cons_succ])
  refine wpAnyH_done (by kernel_rfl) ?_ _
  have B1 := Lib.hid (Bt B0.out hHeld.1)
  have K1 := Lib.hid hHeld.1
  clear c0 c1 c2 f0 f1 f2 hl hHeld hb1
  go_wp2_with fail
  obtain ⟨⟨c0, c1, c2⟩, f0, f1, f2⟩ := three_cells (HT.out.below B1.out).head
  have hl := cell_lt c0
  have b1 := blk_below bb.out K1.out
  obtain ⟨d0, d1, _, _⟩ := two_cells b1
  have hl2 := cell_lt d0
  have hs0 : SH pt ph w.heap.size h1 h2 w1.drew := ⟨c0, d0, d1⟩
  have hs1 : ∀ o, SH pt ph w.heap.size h1 h2 (w1.drew.alloc o) := fun o => ⟨Bc (Ba (Bd (Below.refl _ w1)) o) hl c0, Bc (Ba (Bd (Below.refl _ w1)) o) hl2 d0, Bc (Ba (Bd (Below.refl _ w1)) o) hl2 d1⟩
  have hs2 : ∀ o w', RowKit.Below (w1.drew.alloc o).heap.size (w1.drew.alloc o) w' → SH pt ph w.heap.size h1 h2 w' := fun o w' hb => ⟨Bc hb (cell_lt (hs1 o).1) (hs1 o).1, Bc hb (cell_lt (hs1 o).2.1) (hs1 o).2.1, Bc hb (cell_lt (hs1 o).2.2) (hs1 o).2.2⟩
  unfold SH at *
  refine wp_region_held_drew (S := fun w' => w'.cell? ⟨pt, 0, none⟩ = some (.pointer (some ⟨ph, 0, none⟩)) ∧ w'.cell? ⟨w.heap.size, 0, none⟩ = some (.int .i64 h1) ∧ w'.cell? ⟨w.heap.size, 1, none⟩ = some (.int .i64 h2)) (by kernel_rfl) (hs0) (fun hHeld => ?_)
  (refine wpAnyH_take (i := 0) (v := ?_) rfl (by kernel_rfl) (by kernel_rfl) (by kernel_rfl) (fun _ _ _ h => h) (Or.inl ⟨by rfl, ?rt⟩) (by assumption) ?_; case rt => (intro w hSw; (try dsimp only at hSw); go_simp; (try with_reducible rfl))); (try simp only [Act.put, List.getElem_toArray, List.getElem_cons_succ, List.getElem_cons_zero, List.setIfInBounds_toArray, List.set_cons_zero, List.set_cons_succ])
  (refine wpAnyH_take (i := 1) (v := ?_) rfl (by kernel_rfl) (by kernel_rfl) (by kernel_rfl) (fun _ _ _ h => h) (Or.inl ⟨by rfl, ?rt⟩) (by assumption) ?_; case rt => (intro w hSw; (try dsimp only at hSw); go_simp; (try with_reducible rfl))); (try simp only [Act.put, List.getElem_toArray, List.getElem_cons_succ, List.getElem_cons_zero, List.setIfInBounds_toArray, List.set_cons_zero, List.set_cons_succ])
  (refine wpAnyH_take (i := 2) (v := ?_) rfl (by kernel_rfl) (by kernel_rfl) (by kernel_rfl) (fun _ _ _ h => h) (Or.inl ⟨by rfl, ?rt⟩) (by assumption) ?_; case rt => (intro w hSw; (try dsimp only at hSw); go_simp; (try with_reducible rfl))); (try simp only [Act.put, List.getElem_toArray, List.getElem_cons_succ, List.getElem_cons_zero, List.setIfInBounds_toArray, List.set_cons_zero, List.set_cons_succ])
  (refine wpAnyH_take (i := 3) (v := ?_) rfl (by kernel_rfl) (by kernel_rfl) (by kernel_rfl) (fun _ _ _ h => h) (Or.inl ⟨by rfl, ?rt⟩) (by assumption) ?_; case rt => (intro w hSw; (try dsimp only at hSw); go_simp; (try with_reducible rfl))); (try simp only [Act.put, List.getElem_toArray, List.getElem_cons_succ, List.getElem_cons_zero, List.setIfInBounds_toArray, List.set_cons_zero, List.set_cons_succ])
  (refine wpAnyH_take (i := 4) (v := ?_) rfl (by kernel_rfl) (by kernel_rfl) (by kernel_rfl) (fun _ _ _ h => h) (Or.inl ⟨by rfl, ?rt⟩) (by assumption) ?_; case rt => (intro w hSw; (try dsimp only at hSw); go_simp; (try with_reducible rfl))); (try simp only [Act.put, List.getElem_toArray, List.getElem_cons_succ, List.getElem_cons_zero, List.setIfInBounds_toArray, List.set_cons_zero, List.set_cons_succ])
  refine wpAnyH_ready (rs := [5]) (by kernel_rfl) (by simp) ?_; refine (AllReadyH.cons rfl (fun K hK => ?_) AllReadyH.nil)
  go_simp; refine hK.out _ _ (hs1 _) (fun hHeld => ?_); clear hK K; (try simp only [Act.put, List.getElem_toArray, List.getElem_cons_succ, List.getElem_cons_zero, List.setIfInBounds_toArray, List.set_cons_zero, List.set_cons_succ])
  refine wpAnyH_ready (rs := [6]) (by kernel_rfl) (by simp) ?_; refine (AllReadyH.cons rfl (fun K hK => ?_) AllReadyH.nil)
  go_simp; refine (HP.out _ _ (Ba (Bd B1.out) _) (sl_lit (enc := encH) (cs := #[.int .i64 h1, .int .i64 h2]) (t := 31) [(h1, h2)] (by simp) rfl (by unfold maxLen; simp))).mono ?_; rintro e w3 ⟨rfl, hb3⟩; refine hK.out _ _ (hs2 _ _ hb3) (fun hHeld => ?_); clear hK K; (try simp only [Act.put, List.getElem_toArray, List.getElem_cons_succ, List.getElem_cons_zero, List.setIfInBounds_toArray, List.set_cons_zero, List.set_cons_succ])
  (refine wpAnyH_take (i := 7) (v := ?_) rfl (by kernel_rfl) (by kernel_rfl) (by kernel_rfl) (fun _ _ _ h => h) (Or.inl ⟨by rfl, ?rt⟩) (by assumption) ?_; case rt => (intro w hSw; (try dsimp only at hSw); go_simp; (try with_reducible rfl))); (try simp only [Act.put, List.getElem_toArray, List.getElem_cons_succ, List.getElem_cons_zero, List.setIfInBounds_toArray, List.set_cons_zero, List.set_cons_succ])
  refine wpAnyH_done (by kernel_rfl) ?_ _
  have B3 := Lib.hid (Bt (Ba (Bd B1.out) (.cells #[.int .i64 h1, .int .i64 h2] 31)) hb3)
  clear hb3
  go_wp2
  go_ret2
  exact ⟨rfl, B3.out⟩

theorem colK_put (R : List En) (h : Hd) {l : List Vl} (k : Int) : colK (R ++ [(h, l)]) k = colK R k ++ [fndV l k] := by simp [colK]
/-- The columns, where the first i components of the row l have been put. -/
def colI (R : List En) (l : List Vl) (i : Nat) (k : Int) : List Vl := if k ∈ (l.take i).map (fun x => x.1) then colK R k ++ [fndV l k] else colK R k
theorem colI_zero (R : List En) (l : List Vl) : colI R l 0 = colK R := by funext k; simp [colI]
theorem colI_here {R : List En} {l : List Vl} (hr : RiseK l) {i : Nat} (hi : i < l.length) : colI R l i l[i].1 = colK R l[i].1 := by
  unfold colI
  rw [if_neg]
  intro h
  obtain ⟨x, hx, e⟩ := List.mem_map.1 h
  obtain ⟨j, hj, rfl⟩ := List.getElem_of_mem hx
  rw [List.length_take] at hj
  have := List.pairwise_iff_getElem.1 hr j i (by omega) hi (by omega)
  rw [List.getElem_take] at e
  omega
theorem colI_step {R : List En} {l : List Vl} (hr : RightV l) {i : Nat} (hi : i < l.length) (k : Int) : (if k = l[i].1 then colK R l[i].1 ++ [l[i]] else colI R l i k) = colI R l (i + 1) k := by
  unfold colI
  rw [List.take_succ_eq_append_getElem hi, List.map_append, List.map_cons, List.map_nil]
  by_cases c : k = l[i].1
  · rw [if_pos c, if_pos (by rw [c]; simp), c, find_of_mem hr (List.getElem_mem hi)]
  · rw [if_neg c]
    simp only [List.mem_append, List.mem_singleton, c, or_false]
theorem colI_end {R : List En} {l : List Vl} {q : Nat} {h : Hd} (hl : EntOk q (h, l)) {k : Int} (hk : k ∈ Ks q) : colI R l l.length k = colK (R ++ [(h, l)]) k := by
  unfold colI
  rw [List.take_length, if_pos (by have := hl.1; dsimp only at this; rw [this]; exact hk), colK_put]

set_option maxHeartbeats 4000000 in
set_option maxRecDepth 100000 in
theorem tadd_yes (h : Tab w M pt q R) (h1 h2 : Int) (l : List Vl) (v : Value) (hv : SlN (fun b => b < w.heap.size ∧ ¬ M b) encV w v l) (hlen : l.length ≤ 100000) (hr : rightB l = true) (hm : maskV l = q) (hf : R.length < 128) (hE : Er7 w A) :
    Calls Tryz.prog 118 #[ptP pt, .agg #[.int .i64 h1, .int .i64 h2], v] w fun e w' => e = .returned (.tuple #[.int .i64 R.length, .nilIface]) ∧ Tab w' (New M w w') pt q (R ++ [((h1, h2), l)]) ∧ Tch M w w' := by
  have HR : Hid (∀ W, RowKit.Below w.heap.size w W → Calls Tryz.prog 71 #[v] W fun e w' => e = .returned (.bool true) ∧ RowKit.Below W.heap.size W w') := fun W hb => (right_call l v A W (hv.sl.below hb) (hE.below hb).er).mono fun e w' ⟨h1, h2⟩ => ⟨by rw [h1, hr], h2.below⟩
  have HM : Hid (∀ W, RowKit.Below w.heap.size w W → Calls Tryz.prog 66 #[v] W fun e w' => e = .returned (.int .u64 q) ∧ RowKit.Below W.heap.size W w') := fun W hb => by
    have := mask_call l v (A 4) W (hv.sl.below hb) ((rightB_iff l).1 hr).2 (hE.below hb).er.k hlen
    rwa [hm] at this
  have HV := Lib.hid hv
  have hOk := ent_of (h := (h1, h2)) hr hm
  have HRi := Lib.hid ((rightB_iff l).1 hr)
  have HLT := Lib.hid h.lt
  have hlenT := fun W M' (hT : Tab W M' pt q (R ++ [((h1, h2), l)])) => tlen_call hT
  obtain ⟨ph, pm, f, hT, hq, hfk, hok, hl128⟩ := h
  have HP : Hid (∀ W vl, RowKit.Below w.heap.size w W → Sl encH W vl [(h1, h2)] → Calls Tryz.prog 154 #[ptP ph, vl] W fun e w' => e = .returned .nilIface ∧ TabM w' (New M W w') pt ph pm q f ((R ++ [((h1, h2), l)]).map fun r => r.1) (colI R l 0) ∧ Tch (Mc M pt pm) W w') := fun W vl hb hs => by
    rw [colI_zero, List.map_append, List.map_cons, List.map_nil]
    exact (hT.below hb).askH (P := fun e => e = .returned .nilIface) fun MH hH => pushH_yes hH [(h1, h2)] vl hs (by decide) (by decide) (by simp; omega) (by simp; omega)
  have HEnd : Hid (∀ W M', TabM W M' pt ph pm q f ((R ++ [((h1, h2), l)]).map fun r => r.1) (colI R l l.length) → Tab W M' pt q (R ++ [((h1, h2), l)])) := fun W M' hT => by
    refine ⟨ph, pm, f, hT.congr rfl (fun k hk => colI_end hOk (by rw [hfk] at hk; exact of_decide_eq_true hk)), hq, hfk, fun r hr => ?_, by simp; omega⟩
    rcases List.mem_append.1 hr with c | c
    · exact hok r c
    · rw [List.mem_singleton.1 c]; exact hOk
  have HF : Hid (∀ x ∈ l, ∃ g, f x.1 = some g) := fun x hx => Option.isSome_iff_exists.1 (by
    rw [hfk]
    refine decide_eq_true ?_
    have := hOk.1
    dsimp only at this
    rw [← this]
    exact List.mem_map_of_mem hx)
  have HRl : Hid (∀ k, (colK R k).length = R.length) := fun k => colK_len R k
  have HLen : Hid (∀ W M', Tab W M' pt q (R ++ [((h1, h2), l)]) → Calls Tryz.prog 85 #[ptP pt] W fun e w' => e = .returned (.int .i64 ((R.length + 1 : Nat) : Int)) ∧ W = w') := fun W M' hT => by
    have := hlenT W M' hT
    rwa [List.length_append, List.length_singleton] at this
  have HT := Lib.hid hT
  have HBIG := Lib.hid hlen
  clear hT hfk hok hE hr hm hOk hlenT hv hlen
  generalize hR' : R ++ [((h1, h2), l)] = R' at *
  generalize hH' : (R'.map fun r => r.1) = H' at *
  clear hR' hH'
  obtain ⟨p, cap, rfl, _, _, _⟩ := HV.out
  obtain ⟨W0, hW0⟩ : ∃ W0, W0 = w.alloc (.cells #[.int .i64 h1, .int .i64 h2] 31) := ⟨_, rfl⟩
  have B0 := Lib.hid (show RowKit.Below w.heap.size w W0 by rw [hW0]; exact Ba (Below.refl _ w) _)
  obtain ⟨⟨c0, c1, c2⟩, f0, f1, f2⟩ := three_cells (HT.out.below B0.out).head
  have bb := Lib.hid (show W0.heap[w.heap.size]? = some (.cells #[.int .i64 h1, .int .i64 h2] 31 (0, 0)) by rw [hW0]; exact heap_alloc_new w _)
  have hl := cell_lt c0
  go_enter Tryz.func118, Tryz.ntmps118
  go_wp2_with fail
  rw [← hW0]
  clear hW0
  refine wp_region_held_drew (S := (fun w' => Below (W0).heap.size (W0) w' ∧ ∀ b_1 o, b_1 < (W0).heap.size → w'.cell? ⟨b_1, o, none⟩ = (W0).cell? ⟨b_1, o, none⟩)) (by kernel_rfl) (keep0 _) (fun hHeld => ?_)
  (refine wpAnyH_take (i := 0) (v := ?_) rfl (by kernel_rfl) (by kernel_rfl) (by kernel_rfl) (fun _ _ _ h => h) (Or.inl ⟨by rfl, ?rt⟩) (by assumption) ?_; case rt => (intro w hSw; (try dsimp only at hSw); go_simp; (try with_reducible rfl))); (try simp only [Act.put, List.getElem_toArray, List.getElem_cons_succ, List.getElem_cons_zero, List.setIfInBounds_toArray, List.set_cons_zero, List.set_cons_succ])
  (refine wpAnyH_ready (rs := [1]) (by kernel_rfl) (by simp) ?_; refine AllReadyH.cons rfl (fun K hK => ?_) AllReadyH.nil; go_simp; refine (HR.out _ (Bd B0.out)).mono ?_; rintro e w1 ⟨rfl, hb1⟩; refine hK.out _ _ (keepB (by assumption) hb1) (fun hHeld => ?_); clear hK K); (try simp only [Act.put, List.getElem_toArray, List.getElem_cons_succ, List.getElem_cons_zero, List.setIfInBounds_toArray, List.set_cons_zero, List.set_cons_succ])
  (refine wpAnyH_take (i := 2) (v := ?_) rfl (by kernel_rfl) (by kernel_rfl) (by kernel_rfl) (fun _ _ _ h => h) (Or.inl ⟨by rfl, ?rt⟩) (by assumption) ?_; case rt => (intro w hSw; (try dsimp only at hSw); go_simp; (try with_reducible rfl))); (try simp only [Act.put, List.getElem_toArray, List.getElem_cons_succ, List.getElem_cons_zero, List.setIfInBounds_toArray, List.set_cons_zero, List.set_cons_succ])
  (refine wpAnyH_take (i := 3) (v := ?_) rfl (by kernel_rfl) (by kernel_rfl) (by kernel_rfl) (fun _ _ _ h => h) (Or.inl ⟨by rfl, ?rt⟩) (by assumption) ?_; case rt => (intro w hSw; (try dsimp only at hSw); go_simp; (try with_reducible rfl))); (try simp only [Act.put, List.getElem_toArray, List.getElem_cons_succ, List.getElem_cons_zero, List.setIfInBounds_toArray, List.set_cons_zero, List.set_cons_succ])
  (refine wpAnyH_take (i := 4) (v := ?_) rfl (by kernel_rfl) (by kernel_rfl) (by kernel_rfl) (fun _ _ _ h => h) (Or.inl ⟨by rfl, ?rt⟩) (by assumption) ?_; case rt => (intro w hSw; (try dsimp only at hSw); go_simp; (try with_reducible rfl))); (try simp only [Act.put, List.getElem_toArray, List.getElem_cons_succ, List.getElem_cons_zero, List.setIfInBounds_toArray, List.set_cons_zero, List.set_cons_succ])
  (refine wpAnyH_take (i := 6) (v := ?_) rfl (by kernel_rfl) (by kernel_rfl) (by kernel_rfl) (fun _ _ _ h => h) (Or.inl ⟨by rfl, ?rt⟩) (by assumption) ?_; case rt => (intro w hSw; (try dsimp only at hSw); go_simp; (try with_reducible rfl))); (try simp only [Act.put, List.getElem_toArray, List.getElem_cons_succ, List.getElem_cons_zero, List.setIfInBounds_toArray, List.set_cons_zero, List.set_cons_succ])
  (refine wpAnyH_take (i := 7) (v := ?_) rfl (by kernel_rfl) (by kernel_rfl) (by kernel_rfl) (fun _ _ _ h => h) (Or.inl ⟨by rfl, ?rt⟩) (by assumption) ?_; case rt => (intro w hSw; (try dsimp only at hSw); go_simp; (try with_reducible rfl))); (try simp only [Act.put, List.getElem_toArray, List.getElem_cons_succ, List.getElem_cons_zero, List.setIfInBounds_toArray, List.set_cons_zero, List.set_cons_succ])
  (refine wpAnyH_take (i := 8) (v := ?_) rfl (by kernel_rfl) (by kernel_rfl) (by kernel_rfl) (fun _ _ _ h => h) (Or.inl ⟨by rfl, ?rt⟩) (by assumption) ?_; case rt => (intro w hSw; (try dsimp only at hSw); go_simp; (try with_reducible rfl))); (try simp only [Act.put, List.getElem_toArray, List.getElem_cons_succ, List.getElem_cons_zero, List.setIfInBounds_toArray, List.set_cons_zero, List.set_cons_succ])
  (refine wpAnyH_take (i := 9) (v := ?_) rfl (by kernel_rfl) (by kernel_rfl) (by kernel_rfl) (fun _ _ _ h => h) (Or.inl ⟨by rfl, ?rt⟩) (by assumption) ?_; case rt => (intro w hSw; (try dsimp only at hSw); go_simp; (try with_reducible rfl))); (try simp only [Act.put, List.getElem_toArray, List.getElem_cons_succ, List.getElem_cons_zero, List.setIfInBounds_toArray, List.set_cons_zero, List.set_cons_succ])
  (refine wpAnyH_ready (rs := [5]) (by kernel_rfl) (by simp) ?_; refine AllReadyH.cons rfl (fun K hK => ?_) AllReadyH.nil; go_simp; refine (HM.out _ (Bt B0.out hHeld.1)).mono ?_; rintro e w1 ⟨rfl, hb1⟩; refine hK.out _ _ (keepB (by assumption) hb1) (fun hHeld => ?_); clear hK K); (try simp only [Act.put, List.getElem_toArray, List.getElem_cons_succ, List.getElem_cons_zero, List.setIfInBounds_toArray, List.set_cons_zero, List.set_cons_succ])
  (refine wpAnyH_take (i := 10) (v := ?_) rfl (by kernel_rfl) (by kernel_rfl) (by kernel_rfl) (fun _ _ _ h => h) (Or.inl ⟨by rfl, ?rt⟩) (by assumption) ?_; case rt => (intro w hSw; (try dsimp only at hSw); go_simp; (try with_reducible rfl))); (try simp only [Act.put, List.getElem_toArray, List.getElem_cons_succ, List.getElem_cons_zero, List.setIfInBounds_toArray, List.set_cons_zero, List.set_cons_succ])
  (refine wpAnyH_take (i := 11) (v := ?_) rfl (by kernel_rfl) (by kernel_rfl) (by kernel_rfl) (fun _ _ _ h => h) (Or.inl ⟨by rfl, ?rt⟩) (by assumption) ?_; case rt => (intro w hSw; (try dsimp only at hSw); go_simp; (try with_reducible rfl))); (try simp only [Act.put, List.getElem_toArray, List.getElem_cons_succ, List.getElem_cons_zero, List.setIfInBounds_toArray, List.set_cons_zero, List.set_cons_succ])
  refine wpAnyH_done (by kernel_rfl) ?_ _
  have B1 := Lib.hid (Bt B0.out hHeld.1)
  have K1 := Lib.hid hHeld.1
  clear c0 c1 c2 f0 f1 f2 hl hHeld hb1 HR HM
  go_wp2_with fail
  obtain ⟨⟨c0, c1, c2⟩, f0, f1, f2⟩ := three_cells (HT.out.below B1.out).head
  have hl := cell_lt c0
  have b1 := blk_below bb.out K1.out
  obtain ⟨d0, d1, _, _⟩ := two_cells b1
  have hl2 := cell_lt d0
  have hs0 : SH pt ph w.heap.size h1 h2 w1.drew := ⟨c0, d0, d1⟩
  have hs1 : ∀ o, SH pt ph w.heap.size h1 h2 (w1.drew.alloc o) := fun o => ⟨Bc (Ba (Bd (Below.refl _ w1)) o) hl c0, Bc (Ba (Bd (Below.refl _ w1)) o) hl2 d0, Bc (Ba (Bd (Below.refl _ w1)) o) hl2 d1⟩
  have hnb : ¬ Mc M pt pm w.heap.size := fun e => by have := HLT.out _ e.1; omega
  have hs2 : ∀ o w', Tch (Mc M pt pm) (w1.drew.alloc o) w' → SH pt ph w.heap.size h1 h2 w' := fun o w' hb => ⟨hb.cell (cell_lt (hs1 o).1) (fun e => e.2.1 rfl) (hs1 o).1, hb.cell (cell_lt (hs1 o).2.1) hnb (hs1 o).2.1, hb.cell (cell_lt (hs1 o).2.2) hnb (hs1 o).2.2⟩
  unfold SH at *
  refine wp_region_held_drew (S := fun w' => w'.cell? ⟨pt, 0, none⟩ = some (.pointer (some ⟨ph, 0, none⟩)) ∧ w'.cell? ⟨w.heap.size, 0, none⟩ = some (.int .i64 h1) ∧ w'.cell? ⟨w.heap.size, 1, none⟩ = some (.int .i64 h2)) (by kernel_rfl) (hs0) (fun hHeld => ?_)
  (refine wpAnyH_take (i := 0) (v := ?_) rfl (by kernel_rfl) (by kernel_rfl) (by kernel_rfl) (fun _ _ _ h => h) (Or.inl ⟨by rfl, ?rt⟩) (by assumption) ?_; case rt => (intro w hSw; (try dsimp only at hSw); go_simp; (try with_reducible rfl))); (try simp only [Act.put, List.getElem_toArray, List.getElem_cons_succ, List.getElem_cons_zero, List.setIfInBounds_toArray, List.set_cons_zero, List.set_cons_succ])
  (refine wpAnyH_take (i := 1) (v := ?_) rfl (by kernel_rfl) (by kernel_rfl) (by kernel_rfl) (fun _ _ _ h => h) (Or.inl ⟨by rfl, ?rt⟩) (by assumption) ?_; case rt => (intro w hSw; (try dsimp only at hSw); go_simp; (try with_reducible rfl))); (try simp only [Act.put, List.getElem_toArray, List.getElem_cons_succ, List.getElem_cons_zero, List.setIfInBounds_toArray, List.set_cons_zero, List.set_cons_succ])
  (refine wpAnyH_take (i := 2) (v := ?_) rfl (by kernel_rfl) (by kernel_rfl) (by kernel_rfl) (fun _ _ _ h => h) (Or.inl ⟨by rfl, ?rt⟩) (by assumption) ?_; case rt => (intro w hSw; (try dsimp only at hSw); go_simp; (try with_reducible rfl))); (try simp only [Act.put, List.getElem_toArray, List.getElem_cons_succ, List.getElem_cons_zero, List.setIfInBounds_toArray, List.set_cons_zero, List.set_cons_succ])
  (refine wpAnyH_take (i := 3) (v := ?_) rfl (by kernel_rfl) (by kernel_rfl) (by kernel_rfl) (fun _ _ _ h => h) (Or.inl ⟨by rfl, ?rt⟩) (by assumption) ?_; case rt => (intro w hSw; (try dsimp only at hSw); go_simp; (try with_reducible rfl))); (try simp only [Act.put, List.getElem_toArray, List.getElem_cons_succ, List.getElem_cons_zero, List.setIfInBounds_toArray, List.set_cons_zero, List.set_cons_succ])
  (refine wpAnyH_take (i := 4) (v := ?_) rfl (by kernel_rfl) (by kernel_rfl) (by kernel_rfl) (fun _ _ _ h => h) (Or.inl ⟨by rfl, ?rt⟩) (by assumption) ?_; case rt => (intro w hSw; (try dsimp only at hSw); go_simp; (try with_reducible rfl))); (try simp only [Act.put, List.getElem_toArray, List.getElem_cons_succ, List.getElem_cons_zero, List.setIfInBounds_toArray, List.set_cons_zero, List.set_cons_succ])
  refine wpAnyH_ready (rs := [5]) (by kernel_rfl) (by simp) ?_; refine (AllReadyH.cons rfl (fun K hK => ?_) AllReadyH.nil)
  go_simp; refine hK.out _ _ (hs1 _) (fun hHeld => ?_); clear hK K; (try simp only [Act.put, List.getElem_toArray, List.getElem_cons_succ, List.getElem_cons_zero, List.setIfInBounds_toArray, List.set_cons_zero, List.set_cons_succ])
  refine wpAnyH_ready (rs := [6]) (by kernel_rfl) (by simp) ?_; refine (AllReadyH.cons rfl (fun K hK => ?_) AllReadyH.nil)
  go_simp; refine (HP.out _ _ (Ba (Bd B1.out) _) (sl_lit (enc := encH) (cs := #[.int .i64 h1, .int .i64 h2]) (t := 31) [(h1, h2)] (by simp) rfl (by unfold maxLen; simp))).mono ?_; rintro e w3 ⟨rfl, hT3, ht3⟩; refine hK.out _ _ (hs2 _ _ ht3) (fun hHeld => ?_); clear hK K; (try simp only [Act.put, List.getElem_toArray, List.getElem_cons_succ, List.getElem_cons_zero, List.setIfInBounds_toArray, List.set_cons_zero, List.set_cons_succ])
  (refine wpAnyH_take (i := 7) (v := ?_) rfl (by kernel_rfl) (by kernel_rfl) (by kernel_rfl) (fun _ _ _ h => h) (Or.inl ⟨by rfl, ?rt⟩) (by assumption) ?_; case rt => (intro w hSw; (try dsimp only at hSw); go_simp; (try with_reducible rfl))); (try simp only [Act.put, List.getElem_toArray, List.getElem_cons_succ, List.getElem_cons_zero, List.setIfInBounds_toArray, List.set_cons_zero, List.set_cons_succ])
  refine wpAnyH_done (by kernel_rfl) ?_ _
  have T3 := Lib.hid ((Tch.of (Ba (Bd B1.out) (.cells #[.int .i64 h1, .int .i64 h2] 31)) : Tch M w _).more (ht3.mono Mc.of))
  have N3 := Lib.hid (fun b (e : New M (w1.drew.alloc (.cells #[.int .i64 h1, .int .i64 h2] 31)) w3 b) => (show New M w w3 b from e.imp id (fun e => ⟨by have := (Ba (Bd B1.out) (.cells #[.int .i64 h1, .int .i64 h2] 31)).size; omega, e.2⟩)))
  have HT3 := Lib.hid hT3
  clear hT3 ht3 hHeld hs0 hs1 hs2 hnb d0 d1 hl2 b1 c0 c1 c2 f0 f1 f2 hl K1 bb B1 B0 HP
  generalize New M (w1.drew.alloc (.cells #[.int .i64 h1, .int .i64 h2] 31)) w3 = M3 at *
  have hbl : l.length ≤ 9223372036854775807 := by have := HBIG.out; omega
  go_wp2
  go_loopg [36] l.length (fun gk s36 wr => ∃ (i : Nat) (M' : Nat → Prop), s36 = .int .i64 i ∧ i ≤ l.length ∧ l.length - i ≤ gk ∧ Hid (TabM wr M' pt ph pm q f H' (colI R l i)) ∧ Hid (∀ b, M' b → New M w wr b) ∧ Hid (Tch M w wr))
  case atStart => exact ⟨0, M3, rfl, Nat.zero_le _, by omega, HT3, N3, T3⟩
  case round =>
    obtain ⟨i, M', rfl, hi, hgk, HTr, HN, Tr⟩ := hrel
    by_cases hin : i < l.length
    · have SV := HV.out.kept Tr.out (fun b e => e.2)
      obtain ⟨p', c', e', _, _, hsv⟩ := SV
      obtain ⟨g, o, e3, hg1, hgN, hg2⟩ := hsv (by omega)
      simp only [Value.slice.injEq] at e'
      obtain ⟨rfl, _, rfl⟩ := e'
      subst e3
      obtain ⟨d1, d2, d3⟩ := atV hg2 hin
      have hxe : l[i]! = l[i] := getElem!_pos l i hin
      obtain ⟨gc, hgc⟩ := HF.out _ (List.getElem_mem hin)
      have ST := Lib.hid (colI_step (R := R) HRi.out hin)
      have CH := Lib.hid (colI_here (R := R) HRi.out.1 hin)
      have hkk := (kindB_iff _).1 (chk_kind (HRi.out.2 _ (List.getElem_mem hin)))
      rw [hxe] at d1 d2 d3
      generalize l[i] = x at *
      obtain ⟨x1, x2, x3⟩ := x
      dsimp only at d1 d2 d3 hgc ST CH hkk
      obtain ⟨W4, hW4⟩ : ∃ W4, W4 = wr.alloc (.cells #[.int .i64 x1, .int .i64 x2, .int .i64 x3] 34) := ⟨_, rfl⟩
      have BB := Lib.hid (show RowKit.Below wr.heap.size wr W4 by rw [hW4]; exact Ba (Below.refl _ wr) _)
      have b4 := Lib.hid (show W4.heap[wr.heap.size]? = some (.cells #[.int .i64 x1, .int .i64 x2, .int .i64 x3] 34 (0, 0)) by rw [hW4]; exact heap_alloc_new wr _)
      have HT4 := Lib.hid (HTr.out.below BB.out)
      have T4 := Lib.hid (Tr.out.bel BB.out)
      obtain ⟨⟨c0, c1, c2⟩, f0, f1, f2⟩ := three_cells HT4.out.head
      obtain ⟨⟨z0, z1, z2⟩, _, _, _⟩ := three_cells b4.out
      have hl := cell_lt c0
      have hlz := cell_lt z0
      have hkw : (Lit.int .i64 x1).wf = true := WalkArith.wf_i64 (by omega)
      have FC : Hid (∀ W vl, RowKit.Below W4.heap.size W4 W → Sl encV W vl [(x1, x2, x3)] → Calls Tryz.prog 155 #[ptP gc, vl] W fun e w' => e = .returned .nilIface ∧ TabM w' (New M' W w') pt ph pm q f H' (colI R l (i + 1)) ∧ Tch (Mc M' pt pm) W w') := fun W vl hb hs => by
        have := (HT4.out.below hb).askC hgc (P := fun e => e = .returned .nilIface) (L' := colK R x1 ++ [(x1, x2, x3)]) (fn := 155) (args := #[ptP gc, vl]) fun MC hC => by
          rw [CH.out] at hC
          exact pushV_yes hC [(x1, x2, x3)] vl hs (by decide) (by decide) (by rw [HRl.out]; simp; omega) (by rw [HRl.out]; simp; omega)
        refine this.mono fun e w' ⟨h1, h2, h3⟩ => ⟨h1, h2.congr rfl (fun k _ => ST.out k), h3⟩
      have hM4 : ∀ b, M' b → b < wr.heap.size := HTr.out.lt
      have hs0 : SV pt pm wr.heap.size gc x1 x2 x3 W4.drew := ⟨c1, z0, z1, z2, HT4.out.map.below (Bd (Below.refl _ _)) |>.look x1 hkw |> fun e => by rw [hgc] at e; exact e⟩
      have hs1 : ∀ o, SV pt pm wr.heap.size gc x1 x2 x3 (W4.drew.alloc o) := fun o => ⟨Bc (Ba (Bd (Below.refl _ W4)) o) hl c1, Bc (Ba (Bd (Below.refl _ W4)) o) hlz z0, Bc (Ba (Bd (Below.refl _ W4)) o) hlz z1, Bc (Ba (Bd (Below.refl _ W4)) o) hlz z2, HT4.out.map.below (Ba (Bd (Below.refl _ _)) o) |>.look x1 hkw |> fun e => by rw [hgc] at e; exact e⟩
      have hnb : ¬ Mc M' pt pm wr.heap.size := fun e => by have := hM4 _ e.1; omega
      have hs2 : ∀ o w', TabM w' (New M' (W4.drew.alloc o) w') pt ph pm q f H' (colI R l (i + 1)) → Tch (Mc M' pt pm) (W4.drew.alloc o) w' → SV pt pm wr.heap.size gc x1 x2 x3 w' := fun o w' hT hb => ⟨hb.cell (cell_lt (hs1 o).1) (fun e => e.2.1 rfl) (hs1 o).1, hb.cell (cell_lt (hs1 o).2.1) hnb (hs1 o).2.1, hb.cell (cell_lt (hs1 o).2.1) hnb (hs1 o).2.2.1, hb.cell (cell_lt (hs1 o).2.1) hnb (hs1 o).2.2.2.1, hT.map.look x1 hkw |> fun e => by rw [hgc] at e; exact e⟩
      have BT := Lib.hid BB.out.size
      clear hgN hsv hg2 hxe
      go_wp2_with fail
      rw [← hW4]
      clear hW4 d1 d2 d3
      unfold SV at *
      refine wp_region_held_drew (S := fun w' => w'.cell? ⟨pt, 1, none⟩ = some (.map (some pm)) ∧ w'.cell? ⟨wr.heap.size, 0, none⟩ = some (.int .i64 x1) ∧ w'.cell? ⟨wr.heap.size, 1, none⟩ = some (.int .i64 x2) ∧ w'.cell? ⟨wr.heap.size, 2, none⟩ = some (.int .i64 x3) ∧ (Instr.lookup MapTy (.map (some pm)) (.int .i64 x1) false).run Tryz.prog w' = .ok (.pointer (some ⟨gc, 0, none⟩)) w') (by kernel_rfl) (hs0) (fun hHeld => ?_)
      (refine wpAnyH_take (i := 0) (v := ?_) rfl (by kernel_rfl) (by kernel_rfl) (by kernel_rfl) (fun _ _ _ h => h) (Or.inl ⟨by rfl, ?rt⟩) (by assumption) ?_; case rt => (intro w hSw; (try dsimp only at hSw); go_simp; (try with_reducible rfl))); (try simp only [Act.put, List.getElem_toArray, List.getElem_cons_succ, List.getElem_cons_zero, List.setIfInBounds_toArray, List.set_cons_zero, List.set_cons_succ])
      (refine wpAnyH_take (i := 1) (v := ?_) rfl (by kernel_rfl) (by kernel_rfl) (by kernel_rfl) (fun _ _ _ h => h) (Or.inl ⟨by rfl, ?rt⟩) (by assumption) ?_; case rt => (intro w hSw; (try dsimp only at hSw); go_simp; (try with_reducible rfl))); (try simp only [Act.put, List.getElem_toArray, List.getElem_cons_succ, List.getElem_cons_zero, List.setIfInBounds_toArray, List.set_cons_zero, List.set_cons_succ])
      (refine wpAnyH_take (i := 2) (v := ?_) rfl (by kernel_rfl) (by kernel_rfl) (by kernel_rfl) (fun _ _ _ h => h) (Or.inl ⟨by rfl, ?rt⟩) (by assumption) ?_; case rt => (intro w hSw; (try dsimp only at hSw); go_simp; (try with_reducible rfl))); (try simp only [Act.put, List.getElem_toArray, List.getElem_cons_succ, List.getElem_cons_zero, List.setIfInBounds_toArray, List.set_cons_zero, List.set_cons_succ])
      (refine wpAnyH_take (i := 3) (v := ?_) rfl (by kernel_rfl) (by kernel_rfl) (by kernel_rfl) (fun _ _ _ h => h) (Or.inl ⟨by rfl, ?rt⟩) (by assumption) ?_; case rt => (intro w hSw; (try dsimp only at hSw); go_simp; (try with_reducible rfl))); (try simp only [Act.put, List.getElem_toArray, List.getElem_cons_succ, List.getElem_cons_zero, List.setIfInBounds_toArray, List.set_cons_zero, List.set_cons_succ])
      (refine wpAnyH_take (i := 4) (v := ?_) rfl (by kernel_rfl) (by kernel_rfl) (by kernel_rfl) (fun _ _ _ h => h) (Or.inl ⟨by rfl, ?rt⟩) (by assumption) ?_; case rt => (intro w hSw; (try dsimp only at hSw); go_simp; (try with_reducible rfl))); (try simp only [Act.put, List.getElem_toArray, List.getElem_cons_succ, List.getElem_cons_zero, List.setIfInBounds_toArray, List.set_cons_zero, List.set_cons_succ])
      (refine wpAnyH_take (i := 5) (v := ?_) rfl (by kernel_rfl) (by kernel_rfl) (by kernel_rfl) (fun _ _ _ h => h) (Or.inl ⟨by rfl, ?rt⟩) (by assumption) ?_; case rt => (intro w hSw; (try dsimp only at hSw); go_simp; (try with_reducible rfl))); (try simp only [Act.put, List.getElem_toArray, List.getElem_cons_succ, List.getElem_cons_zero, List.setIfInBounds_toArray, List.set_cons_zero, List.set_cons_succ])
      (refine wpAnyH_take (i := 6) (v := ?_) rfl (by kernel_rfl) (by kernel_rfl) (by kernel_rfl) (fun _ _ _ h => h) (Or.inl ⟨by rfl, ?rt⟩) (by assumption) ?_; case rt => (intro w hSw; (try dsimp only at hSw); go_simp; (try with_reducible rfl))); (try simp only [Act.put, List.getElem_toArray, List.getElem_cons_succ, List.getElem_cons_zero, List.setIfInBounds_toArray, List.set_cons_zero, List.set_cons_succ])
      (refine wpAnyH_take (i := 7) (v := ?_) rfl (by kernel_rfl) (by kernel_rfl) (by kernel_rfl) (fun _ _ _ h => h) (Or.inl ⟨by rfl, ?rt⟩) (by assumption) ?_; case rt => (intro w hSw; (try dsimp only at hSw); go_simp; (try with_reducible rfl))); (try simp only [Act.put, List.getElem_toArray, List.getElem_cons_succ, List.getElem_cons_zero, List.setIfInBounds_toArray, List.set_cons_zero, List.set_cons_succ])
      refine wpAnyH_ready (rs := [8]) (by kernel_rfl) (by simp) ?_; refine (AllReadyH.cons rfl (fun K hK => ?_) AllReadyH.nil)
      go_simp; refine hK.out _ _ (hs1 _) (fun hHeld => ?_); clear hK K; (try simp only [Act.put, List.getElem_toArray, List.getElem_cons_succ, List.getElem_cons_zero, List.setIfInBounds_toArray, List.set_cons_zero, List.set_cons_succ])
      refine wpAnyH_ready (rs := [9]) (by kernel_rfl) (by simp) ?_; refine (AllReadyH.cons rfl (fun K hK => ?_) AllReadyH.nil)
      go_simp; refine (FC.out _ _ (Ba (Bd (Below.refl _ _)) _) (sl_lit (enc := encV) (cs := #[.int .i64 x1, .int .i64 x2, .int .i64 x3]) (t := 34) [(x1, x2, x3)] (by simp) rfl (by unfold maxLen; simp))).mono ?_; rintro e w3 ⟨rfl, hT3, ht3⟩; refine hK.out _ _ (hs2 _ _ hT3 ht3) (fun hHeld => ?_); clear hK K; (try simp only [Act.put, List.getElem_toArray, List.getElem_cons_succ, List.getElem_cons_zero, List.setIfInBounds_toArray, List.set_cons_zero, List.set_cons_succ])
      refine wpAnyH_done (by kernel_rfl) ?_ _
      go_wp2
      go_roundg (l.length - (i + 1))
      case measure => omega
      case rel =>
        have hsz4 : wr.heap.size ≤ (W4.drew.alloc (.cells #[.int .i64 x1, .int .i64 x2, .int .i64 x3] 34)).heap.size := Nat.le_trans BT.out (Ba (Bd (Below.refl _ W4)) (.cells #[.int .i64 x1, .int .i64 x2, .int .i64 x3] 34)).size
        refine ⟨i + 1, New M' (W4.drew.alloc (.cells #[.int .i64 x1, .int .i64 x2, .int .i64 x3] 34)) w3, by go_num, hin, Nat.le_refl _, hT3, fun b e => ?_, ?_⟩
        · rcases e with e | e
          · exact (HN.out b e).imp id (fun e => ⟨e.1, Nat.lt_of_lt_of_le e.2 (Nat.le_trans hsz4 ht3.size)⟩)
          · exact .inr ⟨Nat.le_trans Tr.out.size (Nat.le_trans hsz4 e.1), e.2⟩
        · have t1 := T4.out.bel (Ba (Bd (Below.refl _ W4)) (.cells #[.int .i64 x1, .int .i64 x2, .int .i64 x3] 34))
          refine ⟨ht3.os.trans t1.os, ht3.tape.trans t1.tape, ht3.output.trans t1.output, Nat.le_trans t1.size ht3.size, fun b h1 h2 => (ht3.block b (Nat.lt_of_lt_of_le h1 t1.size) (fun e => ?_)).trans (t1.block b h1 h2)⟩
          exact (HN.out b e.1).elim h2 (fun c => by omega)
    · have hii : i = l.length := by omega
      subst hii
      have HT5 := HEnd.out _ _ HTr.out
      have FL := Lib.hid (HLen.out _ _ HT5)
      have E5 := Lib.hid (HT5.mono (M' := New M w wr) HN.out (New.lt HLT.out Tr.out.size))
      clear HT5
      go_wp2_with fail
      refine FL.out.mono ?_
      rintro e w5 ⟨rfl, rfl⟩
      go_wp2
      go_ret2
      exact ⟨by simp, E5.out, Tr.out⟩
end
end Go.Proofs.YtaehendpdfpibaaGreatDoor

/-
  Columns that are being made; the table's New.
-/
namespace Go.Proofs.YtaehendpdfpibaaGreatDoor
set_option linter.unusedSimpArgs false
set_option linter.unusedVariables false
open Go.RowKit Go.Sort Go.Lib Go.Shelf

/-- The columns of the kinds of f, in blocks of the call's own, from base on, none of Z. -/
def ColsF (w : World) (base : Nat) (Z : Nat → Prop) (f : Int → Option Nat) (C : Int → List Vl) : Prop :=
  ∃ MC : Int → Nat → Prop, (∀ k g, f k = some g → ColVT w (MC k) g (C k) 128) ∧ ∀ k b, MC k b → base ≤ b ∧ b < w.heap.size ∧ ¬ Z b ∧ ∀ k', MC k' b → k' = k
section
variable {w w' w1 : World} {base pt ph pm q : Nat} {Z X : Nat → Prop} {f : Int → Option Nat} {C : Int → List Vl} {H : List Hd}
theorem ColsF.none (w : World) (base : Nat) (Z : Nat → Prop) (C : Int → List Vl) : ColsF w base Z (fun _ => .none) C := ⟨fun _ _ => False, fun _ _ e => (nomatch e), fun _ _ e => e.elim⟩
theorem ColsF.kept (h : ColsF w base Z f C) (t : Tch X w w') (hd : ∀ b, X b → Z b ∨ b < base) : ColsF w' base Z f C := by
  obtain ⟨MC, h1, h2⟩ := h
  refine ⟨MC, fun k g e => (h1 k g e).kept t (fun b e1 e2 => ?_), fun k b e => ⟨(h2 k b e).1, Nat.lt_of_lt_of_le (h2 k b e).2.1 t.size, (h2 k b e).2.2⟩⟩
  rcases hd b e2 with c | c
  · exact (h2 k b e1).2.2.1 c
  · have := (h2 k b e1).1; omega
theorem ColsF.below (h : ColsF w base Z f C) (t : RowKit.Below w.heap.size w w') : ColsF w' base Z f C := h.kept (X := fun _ => False) (Tch.of t) (fun _ e => e.elim)
theorem ColsF.add (h : ColsF w base Z f C) (t : RowKit.Below w.heap.size w w1) {k : Int} {g : Nat} (hn : ColVT w1 (Fresh w w1) g (C k) 128) (hb : base ≤ w.heap.size) (hZ : ∀ b, Z b → b < w.heap.size) : ColsF w1 base Z (fun y => if y = k then some g else f y) C := by
  obtain ⟨MC, h1, h2⟩ := h
  refine ⟨fun y => if y = k then Fresh w w1 else MC y, fun y g' e => ?_, fun y b e => ?_⟩
  · show ColVT w1 (if y = k then Fresh w w1 else MC y) g' (C y) 128
    replace e : (if y = k then some g else f y) = some g' := e
    by_cases c : y = k
    · subst c
      rw [if_pos rfl] at e ⊢
      obtain rfl := Option.some.inj e
      exact hn
    · rw [if_neg c] at e ⊢
      exact (h1 y g' e).below t
  · have key : ∀ z, (if z = k then Fresh w w1 else MC z) b → (w.heap.size ≤ b ∧ b < w1.heap.size ∧ z = k) ∨ MC z b := fun z e => by
      by_cases c : z = k
      · rw [if_pos c] at e
        rcases e with e | e
        · exact e.elim
        · exact .inl ⟨e.1, e.2, c⟩
      · rw [if_neg c] at e
        exact .inr e
    rcases key y e with c | c
    · refine ⟨by omega, c.2.1, fun z => by have := hZ b z; omega, fun z e2 => ?_⟩
      rcases key z e2 with d | d
      · exact d.2.2.trans c.2.2.symm
      · have := (h2 z b d).2.1; omega
    · refine ⟨(h2 y b c).1, Nat.lt_of_lt_of_le (h2 y b c).2.1 t.size, (h2 y b c).2.2.1, fun z e2 => ?_⟩
      rcases key z e2 with d | d
      · have := (h2 y b c).2.1; omega
      · exact (h2 y b c).2.2.2 z d
/-- A table that the call has made. -/
theorem tab_made {w0 wA wB : World} (hb0 : RowKit.Below w0.heap.size w0 wA) (hm : MapP wA pm 64 f) (hpm : w0.heap.size ≤ pm) (hZ : Z pm) (hC : ColsF wA w0.heap.size Z f C) (hAB : RowKit.Below wA.heap.size wA wB) (hH : ColHT wB (Fresh wA wB) ph H 128) :
    TabM (wB.alloc (.cells #[.pointer (some ⟨ph, 0, Option.none⟩), .map (some pm), .int .u64 q] 147)) (Fresh w0 (wB.alloc (.cells #[.pointer (some ⟨ph, 0, Option.none⟩), .map (some pm), .int .u64 q] 147))) wB.heap.size ph pm q f H C := by
  have hbC := Ba (Below.refl _ wB) (.cells #[.pointer (some ⟨ph, 0, Option.none⟩), .map (some pm), .int .u64 q] 147)
  have hsz : (wB.alloc (.cells #[.pointer (some ⟨ph, 0, Option.none⟩), .map (some pm), .int .u64 q] 147)).heap.size = wB.heap.size + 1 := by simp
  obtain ⟨MC, h1, h2⟩ := hC
  have hA := hb0.size
  have hB := hAB.size
  have hl := hm.lt
  refine ⟨Fresh wA wB, MC, heap_alloc_new wB _, (hm.below hAB).below hbC, hH.below hbC, fun k g e => ((h1 k g e).below hAB).below hbC, fun b e => ?_, fun k b e => ⟨.inr ⟨(h2 k b e).1, by have := (h2 k b e).2.1; omega⟩, by have := (h2 k b e).2.1; omega, fun c => (h2 k b e).2.2.1 (c ▸ hZ), fun c => ?_, (h2 k b e).2.2.2⟩, .inr ⟨by omega, by omega⟩, .inr ⟨hpm, by omega⟩, fun b e => e.elim (fun e => e.elim) (fun e => e.2)⟩
  · rcases e with e | e
    · exact e.elim
    · exact ⟨.inr ⟨by omega, by omega⟩, by omega, by omega, fun k c => by have := (h2 k b c).2.1; omega⟩
  · rcases c with c | c
    · exact c.elim
    · have := (h2 k b e).2.1; omega
theorem tch_one (hg : w.grownBy w' (some pm)) : Tch (fun b => b = pm) w w' := tch_grown hg rfl
end

section
variable {A : Nat → Addr}
set_option maxHeartbeats 2000000 in
theorem tnew_no (q : Nat) (hq : ¬ q < 1024) (w : World) (hE : Er7 w A) : Calls Tryz.prog 117 #[.int .u64 q] w fun e w' => e = .returned (.tuple #[.pointer none, errC A 4]) ∧ RowKit.Below w.heap.size w w' := by
  have HR := Lib.hid (mright_any q w)
  rw [decide_eq_false hq] at HR
  have fe := hE.er.kind
  clear hE hq
  go_enter Tryz.func117, Tryz.ntmps117
  go_wp2_with fail
  refine HR.out.mono ?_
  rintro e w1 ⟨rfl, rfl⟩
  go_wp2_with fail
  go_region
  go_wp2
  go_ret2
  exact ⟨rfl, (by repeat (first | with_reducible exact Below.refl _ _ | with_reducible assumption | with_reducible apply Ba | with_reducible apply Bd | with_reducible apply Bn | with_reducible apply Bg | (with_reducible refine Bs ?_ (by first | (simp; done) | (simp; omega)) _) | (with_reducible refine Bt ?_ (by assumption)) | (with_reducible refine Bt ?_ (Gr.below (by assumption)))))⟩
set_option maxHeartbeats 4000000 in
set_option maxRecDepth 100000 in
theorem tnew_yes (q : Nat) (hq : q < 1024) (w : World) (hTW : TabW w) : Calls Tryz.prog 117 #[.int .u64 q] w fun e w' => ∃ pt, e = .returned (.tuple #[ptP pt, .nilIface]) ∧ Tab w' (Fresh w w') pt q [] ∧ RowKit.Below w.heap.size w w' := by
  have HR := Lib.hid (mright_any q w)
  rw [decide_eq_true hq] at HR
  have HK : Hid (∀ W, RowKit.Below w.heap.size w W → Calls Tryz.prog 102 #[.int .u64 q] W fun e w' => ∃ v', e = .returned v' ∧ w'.ownsRow W.heap.size 3 1 v' (Ks q).length (flat encI (Ks q)) ∧ RowKit.Below W.heap.size W w') := fun W hb => mkinds_call q (by omega) W (hTW.below hb)
  have HKL := Lib.hid (Ks_len q)
  have HKK := Lib.hid (Ks_kind hq)
  have HQ := Lib.hid hq
  obtain ⟨K, hKe⟩ : ∃ K, K = Ks q := ⟨_, rfl⟩
  rw [← hKe] at HK HKL HKK
  have HKE := Lib.hid hKe
  clear hTW hKe hq
  go_enter Tryz.func117, Tryz.ntmps117
  go_wp2_with fail
  refine HR.out.mono ?_
  rintro e w1 ⟨rfl, rfl⟩
  have hmm := @run_makeMap Tryz.prog
  go_wp2_with fail
  clear hmm
  refine (HK.out _ (Ba (Below.refl _ w) _)).mono ?_
  rintro e w2 ⟨vk, rfl, hok, hb2⟩
  have B2 := Lib.hid (Bt (Ba (Below.refl _ w) (.map #[] 0)) hb2)
  have M2 := Lib.hid ((MapP.made w).below hb2)
  have S2 := Lib.hid (SlN.of lenI hok rfl)
  have hs2 : w.heap.size < w2.heap.size := M2.out.lt
  have hs1 : (w.alloc (.map #[] 0)).heap.size = w.heap.size + 1 := by simp
  rw [hs1] at S2
  obtain ⟨pk, ck, rfl, _, _, _⟩ := row_val hok
  obtain ⟨pm, hpm⟩ : ∃ pm, pm = w.heap.size := ⟨_, rfl⟩
  rw [← hpm] at M2
  have HPM := Lib.hid hpm
  have hKb : K.length ≤ 9223372036854775807 := by have := HKL.out; omega
  clear hok hb2 HK hs1
  have NP := fun (W : World) => newV_call 128 W
  rw [show (max (128 : Int) 0) = 128 from rfl] at NP
  have HNP := Lib.hid NP
  clear NP
  go_wp2
  rw [← hpm]
  clear hpm
  go_loopg [15] K.length (fun gk s15 wr => ∃ (i : Nat) (f : Int → Option Nat), s15 = .int .i64 i ∧ i ≤ K.length ∧ K.length - i ≤ gk ∧ Hid (MapP wr pm i f) ∧ Hid (ColsF wr w.heap.size (fun b => b = pm) f (fun _ => [])) ∧ Hid (∀ k, (f k).isSome = decide (k ∈ K.take i)) ∧ Hid (RowKit.Below w.heap.size w wr) ∧ Hid (SlN (fun b => pm + 1 ≤ b) encI wr (.slice pk K.length ck) K))
  case atStart => exact ⟨0, _, rfl, Nat.zero_le _, by omega, M2, ColsF.none _ _ _ _, fun k => by simp, B2, (show SlN _ _ _ _ _ by have := S2.out; rw [← HPM.out] at this; exact this)⟩
  case round =>
    obtain ⟨i, f, rfl, hi, hgk, HM, HC, HF, HB, HS⟩ := hrel
    by_cases hin : i < K.length
    · obtain ⟨p', c', e', _, _, hsv⟩ := HS.out
      obtain ⟨g, o, e3, hg1, hgN, hg2⟩ := hsv (by omega)
      simp only [Value.slice.injEq] at e'
      obtain ⟨rfl, _, rfl⟩ := e'
      subst e3
      have d1 := atI hg2 hin
      have hmem : K[i]! ∈ K := by rw [getElem!_pos K i hin]; exact List.getElem_mem hin
      have hkk := (kindB_iff _).1 (HKK.out _ hmem)
      have hkw : (Lit.int .i64 K[i]!).wf = true := WalkArith.wf_i64 (by omega)
      have HST := Lib.hid (take_snoc K hin)
      have HI64 := Lib.hid (show i < 1000 by have := HKL.out; omega)
      generalize K[i]! = k at *
      clear hsv hgN hg2 hmem hkk
      go_wp2_with fail
      refine (HNP.out wr).mono ?_
      rintro e w4 ⟨pb, rfl, hc4, hb4⟩
      have M4 := Lib.hid (HM.out.below hb4)
      have C4 := Lib.hid (HC.out.add (k := k) hb4 hc4 HB.out.size (fun b e => by rw [e]; exact HM.out.lt))
      have S4 := Lib.hid (HS.out.below hb4)
      have B4 := Lib.hid (Bt HB.out hb4)
      clear hb4 hc4 d1
      go_wp2_with (at_mapUpdate; refine wpl_putP rfl _ _ _ rfl (by rfl) M4.out HI64.out k (by rfl) hkw pb (by rfl) ?_; intro w5 hm5 hg5)
      have t5 := tch_one hg5
      go_roundg (K.length - (i + 1))
      case measure => exact Nat.lt_of_lt_of_le (Nat.sub_lt_sub_left hin (Nat.lt_succ_self i)) hgk
      case rel =>
        refine ⟨i + 1, _, by go_num, hin, Nat.le_refl _, hm5, (show Hid _ from C4.out.kept t5 (fun b e => .inl e)), (show Hid _ from fun y => ?_), (show Hid _ from bel_map B4.out hg5 (by rw [HPM.out]; exact Nat.le_refl _)), (show Hid _ from S4.out.kept t5 (fun b e1 e2 => by omega))⟩
        show (if y = k then some pb else f y).isSome = _
        rw [HST.out]
        by_cases c : y = k
        · subst c; simp
        · rw [if_neg c, HF.out]; simp [c]
    · have hii : i = K.length := by omega
      subst hii
      have NH := Lib.hid (newH_call 128 wr)
      rw [show (max (128 : Int) 0) = 128 from rfl] at NH
      go_wp2_with fail
      refine NH.out.mono ?_
      rintro e w4 ⟨ph, rfl, hc4, hb4⟩
      have TM := tab_made (q := q) (Z := fun b => b = pm) HB.out (HM.out.mono (by have := HKL.out; omega)) (by rw [HPM.out]; exact Nat.le_refl _) rfl HC.out hb4 hc4
      have HTM := Lib.hid TM
      have B5 := Lib.hid (Ba (Bt HB.out hb4) (.cells #[.pointer (some ⟨ph, 0, none⟩), .map (some pm), .int .u64 q] 147))
      clear hb4 hc4 TM
      go_wp2
      go_ret2
      refine ⟨_, rfl, ⟨ph, pm, f, HTM.out.congr rfl (fun k _ => rfl), HQ.out, fun k => ?_, fun r hr => absurd hr (List.not_mem_nil), by simp⟩, B5.out⟩
      rw [HF.out, List.take_length, HKE.out]
end
end Go.Proofs.YtaehendpdfpibaaGreatDoor

/-
  The table's Clone: the columns come in whatever order.
-/
namespace Go.Proofs.YtaehendpdfpibaaGreatDoor
set_option linter.unusedSimpArgs false
set_option linter.unusedVariables false
open Go.RowKit Go.Sort Go.Lib Go.Shelf

section
variable {w : World} {M : Nat → Prop} {pt q : Nat} {R : List En}
set_option maxHeartbeats 4000000 in
set_option maxRecDepth 100000 in
theorem tclone_call (h : Tab w M pt q R) : Calls Tryz.prog 40 #[ptP pt] w fun e w' => ∃ pb, e = .returned (ptP pb) ∧ Tab w' (Fresh w w') pb q R ∧ RowKit.Below w.heap.size w w' := by
  have hlen := h.size
  have h0 := h
  obtain ⟨ph, pm, f, hT, hq, hf, hok, hl128⟩ := h
  have HT := Lib.hid hT
  have HV : Hid (∀ W k g, f k = some g → RowKit.Below w.heap.size w W → Calls Tryz.prog 81 #[ptP g] W (ColNew encV 34 3 198 W (colK R k) 128)) := fun W k g hk hb => by
    obtain ⟨MC, hC⟩ := hT.col hk
    exact ccloneV_call (hC.below hb) (by rw [colK_len]; omega)
  have HH : Hid (∀ W, RowKit.Below w.heap.size w W → Calls Tryz.prog 82 #[ptP ph] W (ColNew encH 31 2 200 W (R.map fun r => r.1) 128)) := fun W hb => by
    obtain ⟨MH, hH⟩ := hT.handles
    exact ccloneH_call (hH.below hb) (by simp; omega)
  have HEnd : Hid (∀ W M' pb ph' pm' f', TabM W M' pb ph' pm' q f' (R.map fun r => r.1) (colK R) → (∀ k, (f' k).isSome = (f k).isSome) → Tab W M' pb q R) := fun W M' pb ph' pm' f' hT' e => ⟨ph', pm', f', hT', hq, fun k => by rw [e k]; exact hf k, hok, hl128⟩
  generalize (R.map fun r => r.1) = H at *
  clear h0 hT hq hf hok hl128 hlen
  go_enter Tryz.func40, Tryz.ntmps40
  have hmm := @run_makeMap Tryz.prog
  have B0 := Lib.hid (Ba (Below.refl _ w) (.map #[] 0))
  obtain ⟨⟨c0, c1, c2⟩, f0, f1, f2⟩ := three_cells (HT.out.below B0.out).head
  have hl := cell_lt c0
  have HMo := Lib.hid (HT.out.below B0.out).map
  go_wp2_with (at_range; refine wpl_rangeP rfl _ rfl (by rfl) HMo.out ?_; intro w3 cnt3 hrg3 hg3 hsz3 hcn3)
  have hb3 := grown_below hg3
  have B3 := Lib.hid (Bt B0.out hb3)
  have M3 := Lib.hid ((MapP.made w).below hb3)
  have HRG := Lib.hid hrg3
  have hs1 : (w.alloc (.map #[] 0)).heap.size = w.heap.size + 1 := by simp
  rw [hs1] at HRG hsz3 ⊢
  obtain ⟨pn, hpn⟩ : ∃ pn, pn = w.heap.size := ⟨_, rfl⟩
  obtain ⟨r, hr⟩ : ∃ r, r = w.heap.size + 1 := ⟨_, rfl⟩
  have HPN := Lib.hid hpn
  have HRR := Lib.hid hr
  have HPM := Lib.hid HT.out.map.lt
  rw [← hr] at HRG ⊢
  rw [← hpn] at M3 ⊢
  clear hmm c0 c1 c2 f0 f1 f2 hl HMo B0 hrg3 hg3 hb3 hs1 hpn hr
  have HS3 := Lib.hid hsz3
  clear hsz3
  go_frame
  go_loopw [4] (fun _ wr => ∃ (left : Int → Bool) (cnt n : Nat) (f' : Int → Option Nat), Hid (RngP wr pm r 64 f left cnt) ∧ Hid (MapP wr pn n f') ∧ n + cnt ≤ 64 ∧ Hid (ColsF wr w.heap.size (fun b => b = pn ∨ b = r) f' (colK R)) ∧ Hid (∀ k, (f' k).isSome = ((f k).isSome && !left k)) ∧ Hid (RowKit.Below w.heap.size w wr)) (fun _ wr => wr.rangeLeft pm r)
  case atStart => exact ⟨_, _, 0, _, HRG, M3, by omega, ColsF.none _ _ _ _, (show Hid _ from fun k => by simp), B3⟩
  case round =>
    obtain ⟨left, cnt, n, f', RG, HM, hnc, HC, HF, HB⟩ := hrel
    have nr : ¬ r = pm := RG.out.ne
    go_wp2_with (at_next; refine wpl_nextP rfl _ rfl (by rfl) RG.out ?_ ?_)
    · intro hl0
      obtain ⟨⟨c0, c1, c2⟩, f0, f1, f2⟩ := three_cells (HT.out.below HB.out).head
      have hl := cell_lt c0
      have HE : Hid (∀ k, (f' k).isSome = (f k).isSome) := fun k => by rw [HF.out, hl0 k]; simp
      have HHr := Lib.hid (fun W (hb : RowKit.Below wr.heap.size wr W) => HH.out W (Bt HB.out hb))
      clear hl0
      go_wp2_with fail
      go_region_held3 (fun w' => RowKit.Below wr.heap.size wr w' ∧ ∀ b_1 o, b_1 < wr.heap.size → w'.cell? ⟨b_1, o, none⟩ = wr.cell? ⟨b_1, o, none⟩) (first | exact keep0 _ | exact keepB (by assumption) hb1 | exact keepA (by assumption) _ | assumption) ((go_at_call 82; refine (HHr.out _ (Bd (Below.refl _ wr))).mono ?_; rintro e w1 ⟨pb, rfl, hc1, hb1⟩; have HC1 := Lib.hid hc1; clear hc1))
      all_goals
        have HTM := Lib.hid (tab_made (q := q) (Z := fun b => b = pn ∨ b = r) (HB.out.drew) ((HM.out.below (Bd (Below.refl _ _))).mono (show n ≤ 64 by omega)) (by rw [HPN.out]; exact Nat.le_refl _) (.inl rfl) (HC.out.below (Bd (Below.refl _ _))) hb1 HC1.out)
        have B5 := Lib.hid (Ba (Bt (HB.out.drew) hb1) (.cells #[.pointer (some ⟨pb, 0, none⟩), .map (some pn), .int .u64 q] 147))
        clear hb1 HC1
        go_wp2
        go_ret
        exact ⟨_, rfl, HEnd.out _ _ _ _ _ _ HTM.out HE.out, B5.out⟩
    · intro k g w4 cnt4 hkw hlk hfk hrg4 hlt4 hg4 hsz4 hen4
      have t4 : Tch (fun b => b = r) wr w4 := tch_grown hg4 rfl
      have HM4 := Lib.hid (HM.out.blk (t4.block pn HM.out.lt (fun e => by have := HPN.out; have := HRR.out; omega)))
      have HC4 := Lib.hid (HC.out.kept t4 (fun b e => .inl (.inr e)))
      have B4 := Lib.hid (show RowKit.Below w.heap.size w w4 from (bel_map HB.out hg4 (by rw [HRR.out]; omega)))
      have RG4 := Lib.hid hrg4
      have HLF := Lib.hid RG.out.left_eq
      have FC := Lib.hid (HV.out w4 k g hfk B4.out)
      clear hg4 hrg4 t4
      go_wp2_with fail
      refine FC.out.mono ?_
      rintro e w5 ⟨pb, rfl, hc5, hb5⟩
      have M5 := Lib.hid (HM4.out.below hb5)
      have C5 := Lib.hid (HC4.out.add (k := k) hb5 hc5 B4.out.size (fun b e => e.elim (fun e => by rw [e]; exact HM4.out.lt) (fun e => by rw [e]; exact RG4.out.lt)))
      have RG5 := Lib.hid (RG4.out.kept (M := fun _ => False) (Tch.of hb5) id id)
      have B5 := Lib.hid (Bt B4.out hb5)
      clear hb5 hc5
      have HN := Lib.hid (show n < 1000 by omega)
      go_wp2_with (at_mapUpdate; refine wpl_putP rfl _ _ _ rfl (by rfl) M5.out HN.out k (by rfl) hkw pb (by rfl) ?_; intro w6 hm6 hg6)
      have t6 := tch_one hg6
      have RG6 := RG5.out.kept t6 (fun e => by have := HPM.out; have := HPN.out; omega) (fun e => by have := HPN.out; have := HRR.out; omega)
      go_frame
      go_roundw
      case measure => rw [RG6.left_eq, HLF.out]; exact hlt4
      case rel =>
        refine ⟨_, _, n + 1, _, RG6, hm6, by omega, (show Hid _ from C5.out.kept t6 (fun b e => .inl (.inl e))), (show Hid _ from fun y => ?_), (show Hid _ from bel_map B5.out hg6 (by rw [HPN.out]; exact Nat.le_refl _))⟩
        show (if y = k then some pb else f' y).isSome = ((f y).isSome && !(left y && !decide (y = k)))
        by_cases c : y = k
        · subst c; simp [hfk]
        · rw [if_neg c, HF.out]; simp [c]
end
end Go.Proofs.YtaehendpdfpibaaGreatDoor

/-
  A table of the call's own, off the blocks N; handles compared; alive.
-/
namespace Go.Proofs.YtaehendpdfpibaaGreatDoor
set_option linter.unusedSimpArgs false
set_option linter.unusedVariables false
open Go.RowKit Go.Sort Go.Lib Go.Shelf

theorem eqH_run (x1 x2 y1 y2 : Int) (w : World) : Sem.run Tryz.prog (binOp .eql 31 (.agg #[.int .i64 x1, .int .i64 x2]) (.agg #[.int .i64 y1, .int .i64 y2])) w = .ok (.bool (decide ((x1, x2) = (y1, y2)))) w := by
  have u3 := Tryz.underlying3
  have a3 := Tryz.isAgg3
  have z3 := Tryz.sizeOf3
  have hS : Tryz.prog.underlying 31 = some (.struct (Tryz.prog.fieldsOf 31)) := by kernel_rfl
  have hp : Tryz.prog.stoodInHeld 31 = false := by kernel_rfl
  rw [run_eql_struct, show (10000 : Nat) = 9999 + 1 from rfl, run_equalIn_agg w 9999 31 _ _ hS hp]
  simp only [Program.fieldsOf, Tryz.underlying31]
  go_simp
  by_cases h1 : x1 = y1 <;> by_cases h2 : x2 = y2 <;> simp [h1, h2]
theorem neH_run (x1 x2 y1 y2 : Int) (w : World) : Sem.run Tryz.prog (binOp .neq 31 (.agg #[.int .i64 x1, .int .i64 x2]) (.agg #[.int .i64 y1, .int .i64 y2])) w = .ok (.bool (!decide ((x1, x2) = (y1, y2)))) w := by
  have h := eqH_run x1 x2 y1 y2 w
  rw [run_eql_struct] at h
  rw [run_neq_struct]
  cases hr : (Op.equalIn 10000 31 (.agg #[.int .i64 x1, .int .i64 x2]) (.agg #[.int .i64 y1, .int .i64 y2])).run Tryz.prog w with
  | ok b w' =>
    rw [hr] at h
    simp only [Result.andThen_ok, Result.ok.injEq, Value.bool.injEq] at h ⊢
    obtain ⟨rfl, rfl⟩ := h
    exact ⟨rfl, rfl⟩
  | halt x w' => rw [hr] at h; simp [Result.andThen] at h
theorem gdH_run (op : BinOp) (a b : Operand) (xs ys : Array Value) (w : World) : Sem.run Tryz.prog (eqGuard op 31 a b (.agg xs) (.agg ys)) w = .ok () w :=
  run_eqGuard_agg w op 31 a b xs ys (by kernel_rfl)

/-- From base on, none of N. -/
def OffT (base : Nat) (N : Nat → Prop) : Nat → Prop := fun b => base ≤ b ∧ ¬ N b
/-- A table of the call's own: its blocks lie from base on, none in N. -/
def TabO (N : Nat → Prop) (base : Nat) (w : World) (pt q : Nat) (R : List En) : Prop :=
  ∃ M, Tab w M pt q R ∧ (∀ b, M b → base ≤ b ∧ ¬ N b) ∧ (∀ b, N b → b < w.heap.size) ∧ base ≤ w.heap.size
def NoN : Nat → Prop := fun _ => False
section
variable {N : Nat → Prop} {base pt q : Nat} {w w' : World} {R R' : List En} {A : Nat → Addr}
theorem TabO.below (h : TabO N base w pt q R) (t : RowKit.Below w.heap.size w w') : TabO N base w' pt q R := by
  obtain ⟨M, h1, h2, h3, h4⟩ := h
  exact ⟨M, h1.below t, h2, fun b e => Nat.lt_of_lt_of_le (h3 b e) t.size, Nat.le_trans h4 t.size⟩
theorem TabO.lo (h : TabO N base w pt q R) : base ≤ w.heap.size := by
  obtain ⟨M, h1, h2, h3, h4⟩ := h
  exact h4
theorem TabO.tab (h : TabO N base w pt q R) : ∃ M, Tab w M pt q R := ⟨_, h.choose_spec.1⟩
theorem TabO.size (h : TabO N base w pt q R) : R.length ≤ 128 := h.choose_spec.1.size
theorem TabO.hq (h : TabO N base w pt q R) : q < 1024 := h.choose_spec.1.hq
theorem TabO.ok (h : TabO N base w pt q R) : ∀ r ∈ R, EntOk q r := h.choose_spec.1.ok
/-- What is new since an elder world of the table's is off it. -/
theorem TabO.off {w0 : World} (h : TabO N base w0 pt q R) (t : RowKit.Below w0.heap.size w0 w) : TabO (fun b => N b ∨ (w0.heap.size ≤ b ∧ b < w.heap.size)) base w pt q R := by
  obtain ⟨M, h1, h2, h3, h4⟩ := h
  refine ⟨M, h1.below t, fun b e => ⟨(h2 b e).1, fun c => c.elim (h2 b e).2 (fun c => by have := h1.lt b e; omega)⟩, fun b e => e.elim (fun e => Nat.lt_of_lt_of_le (h3 b e) t.size) (fun e => e.2), Nat.le_trans h4 t.size⟩
theorem TabO.forget {N' : Nat → Prop} (h : TabO N base w pt q R) (hN : ∀ b, N' b → N b) : TabO N' base w pt q R := by
  obtain ⟨M, h1, h2, h3, h4⟩ := h
  exact ⟨M, h1, fun b e => ⟨(h2 b e).1, fun c => (h2 b e).2 (hN b c)⟩, fun b e => h3 b (hN b e), h4⟩
theorem OffT.below (t : Tch (OffT base N) w w') (hb : base ≤ w.heap.size) : RowKit.Below base w w' := t.below (fun b e => e.1) hb
theorem TabO.ask (h : TabO N base w pt q R) {P : Ending → World → Prop} {fn : FuncId} {args : Array Value}
    (hc : ∀ M, Tab w M pt q R → (∀ b, M b → base ≤ b ∧ ¬ N b) → Calls Tryz.prog fn args w fun e w' => P e w' ∧ Tab w' (New M w w') pt q R' ∧ Tch M w w') :
    Calls Tryz.prog fn args w fun e w' => P e w' ∧ TabO N base w' pt q R' ∧ Tch (OffT base N) w w' := by
  obtain ⟨M, h1, h2, h3, h4⟩ := h
  refine (hc M h1 h2).mono fun e w' ⟨he, hT, ht⟩ => ⟨he, ⟨_, hT, fun b e => ?_, fun b e => Nat.lt_of_lt_of_le (h3 b e) ht.size, Nat.le_trans h4 ht.size⟩, ht.mono h2⟩
  rcases e with e | e
  · exact h2 b e
  · exact ⟨by omega, fun c => by have := h3 b c; omega⟩
theorem newX (hq : q < 1024) (hb : base ≤ w.heap.size) (hN : ∀ b, N b → b < w.heap.size) (hT : TabW w) : Calls Tryz.prog 117 #[.int .u64 q] w fun e w' => ∃ pt, e = .returned (.tuple #[ptP pt, .nilIface]) ∧ TabO N base w' pt q [] ∧ RowKit.Below w.heap.size w w' := by
  refine (tnew_yes q hq w hT).mono fun e w' ⟨pt, he, hT, hb1⟩ => ⟨pt, he, ⟨_, hT, fun b e => ?_, fun b e => Nat.lt_of_lt_of_le (hN b e) hb1.size, Nat.le_trans hb hb1.size⟩, hb1⟩
  rcases e with e | e
  · exact e.elim
  · exact ⟨by omega, fun c => by have := hN b c; omega⟩
theorem addX (h : TabO N base w pt q R) (h1 h2 : Int) (l : List Vl) (v : Value) {N' : Nat → Prop} (hv : SlN N' encV w v l) (hN : ∀ b, N' b → b < base ∨ N b) (hlen : l.length ≤ 100000) (hr : rightB l = true) (hm : maskV l = q) (hf : R.length < 128) (hE : Er7 w A) :
    Calls Tryz.prog 118 #[ptP pt, .agg #[.int .i64 h1, .int .i64 h2], v] w fun e w' => e = .returned (.tuple #[.int .i64 R.length, .nilIface]) ∧ TabO N base w' pt q (R ++ [((h1, h2), l)]) ∧ Tch (OffT base N) w w' := by
  have hlo := h.lo
  obtain ⟨M0, _, _, h3, _⟩ := id h
  refine h.ask (P := fun e _ => e = .returned (.tuple #[.int .i64 R.length, .nilIface])) fun M hT hM => tadd_yes hT h1 h2 l v (hv.mono fun b e => ?_) hlen hr hm hf hE
  rcases hN b e with c | c
  · exact ⟨by omega, fun d => by have := (hM b d).1; omega⟩
  · exact ⟨h3 b c, fun d => (hM b d).2 c⟩
theorem takeX (h : TabO N base w pt q R) (n : Nat) (hn : n < R.length) (hTW : TabW w) : Calls Tryz.prog 83 #[ptP pt, .int .i64 n] w fun e w' => (∃ v, e = .returned (.tuple #[.agg #[.int .i64 R[n]!.1.1, .int .i64 R[n]!.1.2, v], .nilIface]) ∧ Sl encV w' v R[n]!.2) ∧ TabO N base w' pt q (takeC R n) ∧ Tch (OffT base N) w w' :=
  h.ask (P := fun e w' => ∃ v, e = .returned (.tuple #[.agg #[.int .i64 R[n]!.1.1, .int .i64 R[n]!.1.2, v], .nilIface]) ∧ Sl encV w' v R[n]!.2) fun M hT _ => (ttake_yes hT n hn hTW).mono fun e w' ⟨⟨v, h1, h2⟩, h3⟩ => ⟨⟨v, h1, row_sl lenV h2 rfl⟩, h3⟩
theorem setX (h : TabO N base w pt q R) (n : Nat) (hn : n < R.length) (x1 x2 x3 : Int) (hk : x1 ∈ Ks q) (hkw : (Lit.int .i64 x1).wf = true) (hc : chk (x1, x2, x3) = 0) (hE : Er7 w A) :
    Calls Tryz.prog 95 #[ptP pt, .int .i64 n, .agg #[.int .i64 x1, .int .i64 x2, .int .i64 x3]] w fun e w' => e = .returned .nilIface ∧ TabO N base w' pt q (R.set n (R[n].1, putV R[n].2 (x1, x2, x3))) ∧ Tch (OffT base N) w w' :=
  h.ask (P := fun e _ => e = .returned .nilIface) fun M hT _ => tset_yes hT n hn x1 x2 x3 hk hkw hc hE
/-- A question. -/
theorem TabO.read (h : TabO N base w pt q R) {P : Ending → World → Prop} {fn : FuncId} {args : Array Value} (hc : ∀ M, Tab w M pt q R → Calls Tryz.prog fn args w P) : Calls Tryz.prog fn args w P := hc _ h.choose_spec.1
end

theorem Ks1 : Ks 1 = [0] := by decide
section
variable {A : Nat → Addr}
end
end Go.Proofs.YtaehendpdfpibaaGreatDoor
