import Derived.Test.YtahichjiphjapaaGreatDoorZ3
import Derived.Test.YtahichjiphjapaaGreatDoorZ1
import Derived.Test.YtahichjiphjapaaGreatDoorZ52
import Derived.Test.YtahichjiphjapaaGreatDoorZ27

/-
  The reference of layer 13: Square, Centre, Place.
-/
namespace Go.Proofs.YtahichjiphjapaaGreatDoor
set_option linter.unusedSimpArgs false
set_option linter.unusedVariables false
open Go.RowKit Go.Sort Go.Lib Go.Shelf

/-- In reach, as a centre and a point are. -/
def nearI (n : Int) : Prop := -4194304 ≤ n ∧ n ≤ 4194304
set_option maxHeartbeats 400000 in
theorem rsquare_call (x y u v : Int) (w : World) (h1 : nearI x) (h2 : nearI y) (h3 : nearI u) (h4 : nearI v) :
    Calls Tryz.prog 33 #[.agg #[.int .i64 x, .int .i64 y], .agg #[.int .i64 u, .int .i64 v]] w fun e w' => e = .returned (.int .i64 (sqI (x, y) (u, v))) ∧ RowKit.Below w.heap.size w w' := by
  unfold nearI at *
  obtain ⟨a1, a2⟩ := h1
  obtain ⟨a3, a4⟩ := h2
  obtain ⟨b1, b2⟩ := h3
  obtain ⟨b3, b4⟩ := h4
  obtain ⟨c1, c2⟩ := sq_bd (d := x - u) (by omega) (by omega)
  obtain ⟨c3, c4⟩ := sq_bd (d := y - v) (by omega) (by omega)
  unfold sqI
  dsimp only
  go_enter Tryz.func33, Tryz.ntmps33
  go_wp2
  go_ret
  exact ⟨ret_int rfl, (by repeat (first | with_reducible exact Below.refl _ _ | with_reducible assumption | with_reducible apply Ba | with_reducible apply Bd | with_reducible apply Bn | with_reducible apply Bg | (with_reducible refine Bs ?_ (by first | (simp; done) | (simp; omega)) _) | (with_reducible refine Bt ?_ (by assumption)) | (with_reducible refine Bt ?_ (Gr.below (by assumption)))))⟩
theorem half_near {a b : Int} (h1 : nearI a) (h2 : nearI b) : nearI (halfI (a + b)) := by
  unfold nearI halfI at *
  omega
set_option maxHeartbeats 1000000 in
set_option maxRecDepth 100000 in
theorem rcentre_call (x1 x2 x3 x4 : Int) (w : World) (h1 : nearI x1) (h2 : nearI x2) (h3 : nearI x3) (h4 : nearI x4) :
    Calls Tryz.prog 20 #[.agg #[.int .i64 x1, .int .i64 x2, .int .i64 x3, .int .i64 x4]] w fun e w' => e = .returned (.agg #[.int .i64 (halfI (x1 + x3)), .int .i64 (halfI (x2 + x4))]) ∧ RowKit.Below w.heap.size w w' := by
  unfold nearI at *
  obtain ⟨a1, a2⟩ := h1
  obtain ⟨a3, a4⟩ := h2
  obtain ⟨b1, b2⟩ := h3
  obtain ⟨b3, b4⟩ := h4
  have H1 := Lib.hid (fun (n : Int) (hn : n = x1 + x3) W => (show Calls Tryz.prog 41 #[.int .i64 n] W fun e w' => e = .returned (.int .i64 (halfI (x1 + x3))) ∧ W = w' by rw [hn]; exact rhalf_any (x1 + x3) W (by omega) (by omega)))
  have H2 := Lib.hid (fun (n : Int) (hn : n = x2 + x4) W => (show Calls Tryz.prog 41 #[.int .i64 n] W fun e w' => e = .returned (.int .i64 (halfI (x2 + x4))) ∧ W = w' by rw [hn]; exact rhalf_any (x2 + x4) W (by omega) (by omega)))
  have e1 : IntKind.i64.wrap (x1 + x3) = x1 + x3 := IntWalk.i64_in _ (by omega)
  have e2 : IntKind.i64.wrap (x2 + x4) = x2 + x4 := IntWalk.i64_in _ (by omega)
  generalize halfI (x1 + x3) = m1 at *
  generalize halfI (x2 + x4) = m2 at *
  have E1 := Lib.hid e1
  have E2 := Lib.hid e2
  obtain ⟨W0, hW0⟩ : ∃ W0, W0 = (w.alloc (.cells #[.int .i64 x1, .int .i64 x2, .int .i64 x3, .int .i64 x4] 45)).alloc (.cells #[.int .i64 0, .int .i64 0] 24) := ⟨_, rfl⟩
  obtain ⟨k1, k2⟩ := three_blk (w := w) (o1 := .cells #[.int .i64 x1, .int .i64 x2, .int .i64 x3, .int .i64 x4] 45) (o2 := .cells #[.int .i64 0, .int .i64 0] 24) (w3 := W0) (by rw [hW0]; exact Below.refl _ _)
  have b0 : RowKit.Below w.heap.size w W0 := by rw [hW0]; exact Ba (Ba (Below.refl _ w) _) _
  obtain ⟨t1, t2, t3, t4⟩ := cells4 k1
  have hl := cell_lt t1
  clear a1 a2 a3 a4 b1 b2 b3 b4 e1 e2
  go_enter Tryz.func20, Tryz.ntmps20
  go_wp2_with fail
  rw [← hW0]
  clear hW0
  refine wp_region_held_drew (S := fun W => (W.cell? ⟨w.heap.size, 0, none⟩ = some (.int .i64 x1) ∧ W.cell? ⟨w.heap.size, 1, none⟩ = some (.int .i64 x2) ∧ W.cell? ⟨w.heap.size, 2, none⟩ = some (.int .i64 x3) ∧ W.cell? ⟨w.heap.size, 3, none⟩ = some (.int .i64 x4)) ∧ RowKit.Below w.heap.size w W ∧ ∃ a b, W.heap[w.heap.size + 1]? = some (.cells #[a, b] 24 (0, 0))) (by kernel_rfl) ⟨⟨t1, t2, t3, t4⟩, b0.drew, _, _, k2⟩ (fun hHeld => ?_)
  (refine wpAnyH_take (i := 0) (v := ?_) rfl (by kernel_rfl) (by kernel_rfl) (by kernel_rfl) (fun _ _ _ h => h) (Or.inl ⟨by rfl, ?rt⟩) (by assumption) ?_; case rt => (intro w hSw; (try dsimp only at hSw); go_simp; (try with_reducible rfl))); (try simp only [Act.put, List.getElem_toArray, List.getElem_cons_succ, List.getElem_cons_zero, List.setIfInBounds_toArray, List.set_cons_zero, List.set_cons_succ])
  (refine wpAnyH_take (i := 1) (v := ?_) rfl (by kernel_rfl) (by kernel_rfl) (by kernel_rfl) (fun _ _ _ h => h) (Or.inl ⟨by rfl, ?rt⟩) (by assumption) ?_; case rt => (intro w hSw; (try dsimp only at hSw); go_simp; (try with_reducible rfl))); (try simp only [Act.put, List.getElem_toArray, List.getElem_cons_succ, List.getElem_cons_zero, List.setIfInBounds_toArray, List.set_cons_zero, List.set_cons_succ])
  (refine wpAnyH_take (i := 2) (v := ?_) rfl (by kernel_rfl) (by kernel_rfl) (by kernel_rfl) (fun _ _ _ h => h) (Or.inl ⟨by rfl, ?rt⟩) (by assumption) ?_; case rt => (intro w hSw; (try dsimp only at hSw); go_simp; (try with_reducible rfl))); (try simp only [Act.put, List.getElem_toArray, List.getElem_cons_succ, List.getElem_cons_zero, List.setIfInBounds_toArray, List.set_cons_zero, List.set_cons_succ])
  (refine wpAnyH_take (i := 3) (v := ?_) rfl (by kernel_rfl) (by kernel_rfl) (by kernel_rfl) (fun _ _ _ h => h) (Or.inl ⟨by rfl, ?rt⟩) (by assumption) ?_; case rt => (intro w hSw; (try dsimp only at hSw); go_simp; (try with_reducible rfl))); (try simp only [Act.put, List.getElem_toArray, List.getElem_cons_succ, List.getElem_cons_zero, List.setIfInBounds_toArray, List.set_cons_zero, List.set_cons_succ])
  (refine wpAnyH_take (i := 4) (v := ?_) rfl (by kernel_rfl) (by kernel_rfl) (by kernel_rfl) (fun _ _ _ h => h) (Or.inl ⟨by rfl, ?rt⟩) (by assumption) ?_; case rt => (intro w hSw; (try dsimp only at hSw); go_simp; (try with_reducible rfl))); (try simp only [Act.put, List.getElem_toArray, List.getElem_cons_succ, List.getElem_cons_zero, List.setIfInBounds_toArray, List.set_cons_zero, List.set_cons_succ])
  (refine wpAnyH_take (i := 6) (v := ?_) rfl (by kernel_rfl) (by kernel_rfl) (by kernel_rfl) (fun _ _ _ h => h) (Or.inl ⟨by rfl, ?rt⟩) (by assumption) ?_; case rt => (intro w hSw; (try dsimp only at hSw); go_simp; (try with_reducible rfl))); (try simp only [Act.put, List.getElem_toArray, List.getElem_cons_succ, List.getElem_cons_zero, List.setIfInBounds_toArray, List.set_cons_zero, List.set_cons_succ])
  (refine wpAnyH_take (i := 7) (v := ?_) rfl (by kernel_rfl) (by kernel_rfl) (by kernel_rfl) (fun _ _ _ h => h) (Or.inl ⟨by rfl, ?rt⟩) (by assumption) ?_; case rt => (intro w hSw; (try dsimp only at hSw); go_simp; (try with_reducible rfl))); (try simp only [Act.put, List.getElem_toArray, List.getElem_cons_succ, List.getElem_cons_zero, List.setIfInBounds_toArray, List.set_cons_zero, List.set_cons_succ])
  (refine wpAnyH_take (i := 8) (v := ?_) rfl (by kernel_rfl) (by kernel_rfl) (by kernel_rfl) (fun _ _ _ h => h) (Or.inl ⟨by rfl, ?rt⟩) (by assumption) ?_; case rt => (intro w hSw; (try dsimp only at hSw); go_simp; (try with_reducible rfl))); (try simp only [Act.put, List.getElem_toArray, List.getElem_cons_succ, List.getElem_cons_zero, List.setIfInBounds_toArray, List.set_cons_zero, List.set_cons_succ])
  (refine wpAnyH_take (i := 9) (v := ?_) rfl (by kernel_rfl) (by kernel_rfl) (by kernel_rfl) (fun _ _ _ h => h) (Or.inl ⟨by rfl, ?rt⟩) (by assumption) ?_; case rt => (intro w hSw; (try dsimp only at hSw); go_simp; (try with_reducible rfl))); (try simp only [Act.put, List.getElem_toArray, List.getElem_cons_succ, List.getElem_cons_zero, List.setIfInBounds_toArray, List.set_cons_zero, List.set_cons_succ])
  (refine wpAnyH_take (i := 10) (v := ?_) rfl (by kernel_rfl) (by kernel_rfl) (by kernel_rfl) (fun _ _ _ h => h) (Or.inl ⟨by rfl, ?rt⟩) (by assumption) ?_; case rt => (intro w hSw; (try dsimp only at hSw); go_simp; (try with_reducible rfl))); (try simp only [Act.put, List.getElem_toArray, List.getElem_cons_succ, List.getElem_cons_zero, List.setIfInBounds_toArray, List.set_cons_zero, List.set_cons_succ])
  (refine wpAnyH_ready (rs := [5]) (by kernel_rfl) (by simp) ?_; refine AllReadyH.cons rfl (fun K hK => ?_) AllReadyH.nil; go_simp; refine (H1.out _ (by first | rfl | exact E1.out) _).mono ?_; rintro e w4 ⟨rfl, rfl⟩; refine hK.out _ _ hHeld (fun hHeld => ?_); clear hK K); (try simp only [Act.put, List.getElem_toArray, List.getElem_cons_succ, List.getElem_cons_zero, List.setIfInBounds_toArray, List.set_cons_zero, List.set_cons_succ])
  (refine wpAnyH_ready (rs := [11]) (by kernel_rfl) (by simp) ?_; refine AllReadyH.cons rfl (fun K hK => ?_) AllReadyH.nil; go_simp; refine (H2.out _ (by first | rfl | exact E2.out) _).mono ?_; rintro e w5 ⟨rfl, rfl⟩; refine hK.out _ _ hHeld (fun hHeld => ?_); clear hK K); (try simp only [Act.put, List.getElem_toArray, List.getElem_cons_succ, List.getElem_cons_zero, List.setIfInBounds_toArray, List.set_cons_zero, List.set_cons_succ])
  (refine wpAnyH_take (i := 12) (v := ?_) rfl (by kernel_rfl) (by kernel_rfl) (by kernel_rfl) (fun _ _ _ h => h) (Or.inl ⟨by rfl, ?rt⟩) (by assumption) ?_; case rt => (intro w hSw; (try dsimp only at hSw); go_simp; (try with_reducible rfl))); (try simp only [Act.put, List.getElem_toArray, List.getElem_cons_succ, List.getElem_cons_zero, List.setIfInBounds_toArray, List.set_cons_zero, List.set_cons_succ])
  obtain ⟨s1, s2, f1, f2⟩ := two_cells k2
  have K9 := Lib.hid k2
  have HBl := Lib.hid b0
  clear b0 k1 k2 hHeld
  (refine wpAnyH_ready (rs := [13]) (by kernel_rfl) (by simp) ?_; refine AllReadyH.cons rfl (fun K hK => ?_) AllReadyH.nil; go_simp)
  have k10 := heap_setCell_same _ (w.heap.size + 1) 1 _ _ (.int .i64 m2) (heap_setCell_same _ (w.heap.size + 1) 0 _ _ (.int .i64 m1) K9.out)
  have hB2 := Bs (p := ⟨w.heap.size + 1, 1, none⟩) (Bs (p := ⟨w.heap.size + 1, 0, none⟩) HBl.out (by simp) (.int .i64 m1)) (by simp) (.int .i64 m2)
  refine hK.out _ _ ⟨⟨by simp [World.cell?_setCell_other, t1], by simp [World.cell?_setCell_other, t2], by simp [World.cell?_setCell_other, t3], by simp [World.cell?_setCell_other, t4]⟩, hB2.drew, _, _, k10⟩ (fun hHeld => ?_)
  clear hK K
  (try simp only [Act.put, List.getElem_toArray, List.getElem_cons_succ, List.getElem_cons_zero, List.setIfInBounds_toArray, List.set_cons_zero, List.set_cons_succ])
  refine wpAnyH_done (by kernel_rfl) ?_ _
  obtain ⟨s1, s2, f1, f2⟩ := two_cells k10
  have HB2 := Lib.hid hB2
  clear hHeld k10 hB2
  go_wp2
  exact bodyPost_ret (v := .agg #[.int .i64 m1, .int .i64 m2]) (by simp [results, Tryz.results20, go_sem, *]) rfl ⟨rfl, HB2.out.drew⟩
theorem rplace_call (x y : Int) (w : World) : Calls Tryz.prog 13 #[.agg #[.int .i64 x, .int .i64 y]] w fun e w' => e = .returned (.bool (placeB (x, y))) ∧ RowKit.Below w.heap.size w w' := by
  rw [show placeB (x, y) = (inB x 1048576 && inB y 1048576) from rfl]
  go_enter Tryz.func13, Tryz.ntmps13
  go_wp2_with (go_at_call 31; refine (in_any _ _ _ (by omega) (by omega)).mono ?_; rintro e w' ⟨rfl, rfl⟩)
  all_goals (go_ret; exact ⟨ret_bool (by simp [*]), (by repeat (first | with_reducible exact Below.refl _ _ | with_reducible assumption | with_reducible apply Ba | with_reducible apply Bd | with_reducible apply Bn | with_reducible apply Bg | (with_reducible refine Bs ?_ (by first | (simp; done) | (simp; omega)) _) | (with_reducible refine Bt ?_ (by assumption)) | (with_reducible refine Bt ?_ (Gr.below (by assumption)))))⟩)
end Go.Proofs.YtahichjiphjapaaGreatDoor

/-
  The reference of layer 13: Radius.
-/
namespace Go.Proofs.YtahichjiphjapaaGreatDoor
set_option linter.unusedSimpArgs false
set_option linter.unusedVariables false
open Go.RowKit Go.Sort Go.Lib Go.Shelf

def rdL (B : List Bxd) (p : Pt) (r : Int) : List Hd := (B.filter fun b => decide (sqI p (ctrB b.2) ≤ r * r)).map (·.1)
theorem rdL_len (B : List Bxd) (p : Pt) (r : Int) : (rdL B p r).length ≤ B.length := by
  unfold rdL
  rw [List.length_map]
  exact List.length_filter_le _ _
theorem rdL_take {B : List Bxd} {k : Nat} (hk : k < B.length) (p : Pt) (r : Int) : rdL (B.take (k + 1)) p r = rdL (B.take k) p r ++ (if sqI p (ctrB B[k]!.2) ≤ r * r then [B[k]!.1] else []) := by
  unfold rdL
  rw [List.take_succ_eq_append_getElem hk, getElem!_pos B k hk, List.filter_append, List.map_append]
  congr 1
  by_cases h : sqI p (ctrB B[k].2) ≤ r * r
  · rw [if_pos h, List.filter_cons, if_pos (by simpa using h)]
    rfl
  · rw [if_neg h, List.filter_cons, if_neg (by simpa using h)]
    rfl
theorem ok_near {b : Bx4} (h : okR b = true) : (nearI b.1 ∧ nearI b.2.1 ∧ nearI b.2.2.1 ∧ nearI b.2.2.2) ∧ nearI (ctrB b).1 ∧ nearI (ctrB b).2 := by
  have := okR_iff.1 h
  unfold nearI ctrB halfI
  dsimp only
  omega
theorem place_near {x y : Int} (h : placeB (x, y) = true) : nearI x ∧ nearI y := by
  have := place_bd h
  unfold nearI
  omega
set_option maxHeartbeats 2000000 in
set_option maxRecDepth 100000 in
theorem rRadius_call (B : List Bxd) (v : Value) (x y r : Int) (w : World) (hl : Sl encBx w v B) (hn : B.length ≤ 100) (hok : OkB B) (hP : placeB (x, y) = true) (h0 : 0 ≤ r) (h1 : r ≤ 4194304) :
    Calls Tryz.prog 16 #[v, .agg #[.int .i64 x, .int .i64 y], .int .i64 r] w fun e w' => ∃ v', e = .returned v' ∧ w'.ownsRow w.heap.size 42 2 v' (radL B (x, y) r).length (flat encH (radL B (x, y) r)) ∧ RowKit.Below w.heap.size w w' := by
  have RP := Lib.hid (fun (v : Value) (w' : World) (h : Sl encH w' v (rdL B (x, y) r)) => rhandles_call (rdL B (x, y) r) v w' h (by have := rdL_len B (x, y) r; omega))
  have e0 : radL B (x, y) r = srt ltH (rdL B (x, y) r) := rfl
  rw [e0]
  obtain ⟨p0, c0, rfl, v1, v2, v3⟩ := hl
  unfold maxLen at v2
  have HV := Lib.hid v3
  have HOK := Lib.hid hok
  have hz : (B.length : Int) ≤ 100 := by omega
  obtain ⟨e1, e2⟩ := sq_bd (d := r) (by omega) (by omega)
  have HWR := Lib.hid (IntWalk.i64_in (r * r) (by omega))
  obtain ⟨nx, ny⟩ := place_near hP
  have SQ := Lib.hid (fun (u v : Int) (h3 : nearI u) (h4 : nearI v) W => rsquare_call x y u v W nx ny h3 h4)
  clear v3 hok hP e0 nx ny
  obtain ⟨wq, hwq⟩ : ∃ wq, wq = w.alloc (.cells #[.int .i64 x, .int .i64 y] 24) := ⟨_, rfl⟩
  have H1 : Hid ((wq.cell? ⟨w.heap.size, 0, none⟩ = some (.int .i64 x) ∧ wq.cell? ⟨w.heap.size, 1, none⟩ = some (.int .i64 y)) ∧ w.heap.size < wq.heap.size ∧ RowKit.Below w.heap.size w wq) := by rw [hwq]; exact ⟨⟨by simp, by simp⟩, by simp, Ba (Below.refl _ _) _⟩
  have HW := Lib.hid hwq
  have mixed : Tryz.prog.follows .mixedOrders = true := by kernel_rfl
  clear hwq
  go_enter Tryz.func16, Tryz.ntmps16
  go_wp2
  go_loopw [7, 13] (fun v i wr => ∃ k : Nat, k ≤ B.length ∧ i = .int .i64 k ∧ RowKit.Below wq.heap.size wq wr ∧ wr.ownsRow wq.heap.size 42 2 v (rdL (B.take k) (x, y) r).length (flat encH (rdL (B.take k) (x, y) r))) (fun _ i _ => B.length - (intOf i).toNat)
  case atStart => rw [← HW.out, ← show wq.heap.size = w.heap.size + 1 by rw [HW.out]; simp]; exact ⟨0, Nat.zero_le _, rfl, Ba (Below.refl _ _) _, World.ownsRow_made wq #[] 0 (Nat.le_refl _) (Nat.zero_le _) (by simp)⟩
  case round =>
    obtain ⟨k, hk, rfl, hb, ho⟩ := hrel
    have HO := Lib.hid ho
    have HB := Lib.hid hb
    clear ho hb
    by_cases hkn : k < B.length
    · obtain ⟨g0, o0, rfl, hg1, hg2⟩ := HV.out (by omega)
      obtain ⟨c1, c2, c3, c4, c5, c6⟩ := atBx hg2 hkn
      have bW := Bt H1.out.2.2 HB.out
      replace c1 := Bc bW hg1 c1
      replace c2 := Bc bW hg1 c2
      replace c3 := Bc bW hg1 c3
      replace c4 := Bc bW hg1 c4
      replace c5 := Bc bW hg1 c5
      replace c6 := Bc bW hg1 c6
      have a1 := Bc HB.out H1.out.2.1 H1.out.1.1
      have a2 := Bc HB.out H1.out.2.1 H1.out.1.2
      have hal : w.heap.size < wr.heap.size := Bl HB.out H1.out.2.1
      have hgl := Bl bW hg1
      have hmt := Lib.hid (rdL_take hkn (x, y) r)
      have hlt : (rdL (B.take k) (x, y) r).length ≤ 100 := by
        have h1 := rdL_len (B.take k) (x, y) r
        have h2 : (B.take k).length ≤ B.length := List.length_take_le' _ _
        omega
      have hbk := ok_near (HOK.out B[k]! (by rw [getElem!_pos B k hkn]; exact List.getElem_mem hkn)).1
      generalize B[k]! = z at *
      obtain ⟨⟨x1, x2⟩, x3, x4, x5, x6⟩ := z
      dsimp only at c1 c2 c3 c4 c5 c6 hmt
      obtain ⟨⟨n1, n2, n3, n4⟩, n5, n6⟩ := hbk
      have CC := Lib.hid (fun W => rcentre_call x3 x4 x5 x6 W n1 n2 n3 n4)
      have SQ2 := Lib.hid (fun W => SQ.out (ctrB (x3, x4, x5, x6)).1 (ctrB (x3, x4, x5, x6)).2 n5 n6 W)
      rw [show ((ctrB (x3, x4, x5, x6)).1, (ctrB (x3, x4, x5, x6)).2) = ctrB (x3, x4, x5, x6) from rfl] at SQ2
      rw [show halfI (x3 + x5) = (ctrB (x3, x4, x5, x6)).1 from rfl, show halfI (x4 + x6) = (ctrB (x3, x4, x5, x6)).2 from rfl] at CC
      generalize sqI (x, y) (ctrB (x3, x4, x5, x6)) = D at *
      generalize ctrB (x3, x4, x5, x6) = q at *
      obtain ⟨q1, q2⟩ := q
      dsimp only at CC SQ2
      clear hg2 bW n1 n2 n3 n4 n5 n6
      have bA := Ba (Below.refl _ wr) (.cells #[.int .i64 x1, .int .i64 x2, .int .i64 x3, .int .i64 x4, .int .i64 x5, .int .i64 x6] 47)
      have HX := Lib.hid (cells6 (heap_alloc_new wr (.cells #[.int .i64 x1, .int .i64 x2, .int .i64 x3, .int .i64 x4, .int .i64 x5, .int .i64 x6] 47)))
      have hwr : wr.heap.size < (wr.alloc (.cells #[.int .i64 x1, .int .i64 x2, .int .i64 x3, .int .i64 x4, .int .i64 x5, .int .i64 x6] 47)).heap.size := by simp
      go_wp2_with fail
      refine wp_region_held_drew (S := (fun w' => Below (wr.alloc (.cells #[.int .i64 x1, .int .i64 x2, .int .i64 x3, .int .i64 x4, .int .i64 x5, .int .i64 x6] 47)).heap.size (wr.alloc (.cells #[.int .i64 x1, .int .i64 x2, .int .i64 x3, .int .i64 x4, .int .i64 x5, .int .i64 x6] 47)) w' ∧ ∀ b_1 o, b_1 < (wr.alloc (.cells #[.int .i64 x1, .int .i64 x2, .int .i64 x3, .int .i64 x4, .int .i64 x5, .int .i64 x6] 47)).heap.size → w'.cell? ⟨b_1, o, none⟩ = (wr.alloc (.cells #[.int .i64 x1, .int .i64 x2, .int .i64 x3, .int .i64 x4, .int .i64 x5, .int .i64 x6] 47)).cell? ⟨b_1, o, none⟩)) (by kernel_rfl) (keep0 _) (fun hHeld => ?_)
      (refine wpAnyH_take (i := 0) (v := ?_) rfl (by kernel_rfl) (by kernel_rfl) (by kernel_rfl) (fun _ _ _ h => h) (Or.inl ⟨by rfl, ?rt⟩) (by assumption) ?_; case rt => (intro w hSw; (try dsimp only at hSw); go_simp; (try with_reducible rfl))); (try simp only [Act.put, List.getElem_toArray, List.getElem_cons_succ, List.getElem_cons_zero, List.setIfInBounds_toArray, List.set_cons_zero, List.set_cons_succ])
      (refine wpAnyH_take (i := 1) (v := ?_) rfl (by kernel_rfl) (by kernel_rfl) (by kernel_rfl) (fun _ _ _ h => h) (Or.inl ⟨by rfl, ?rt⟩) (by assumption) ?_; case rt => (intro w hSw; (try dsimp only at hSw); go_simp; (try with_reducible rfl))); (try simp only [Act.put, List.getElem_toArray, List.getElem_cons_succ, List.getElem_cons_zero, List.setIfInBounds_toArray, List.set_cons_zero, List.set_cons_succ])
      (refine wpAnyH_take (i := 2) (v := ?_) rfl (by kernel_rfl) (by kernel_rfl) (by kernel_rfl) (fun _ _ _ h => h) (Or.inl ⟨by rfl, ?rt⟩) (by assumption) ?_; case rt => (intro w hSw; (try dsimp only at hSw); go_simp; (try with_reducible rfl))); (try simp only [Act.put, List.getElem_toArray, List.getElem_cons_succ, List.getElem_cons_zero, List.setIfInBounds_toArray, List.set_cons_zero, List.set_cons_succ])
      (refine wpAnyH_take (i := 5) (v := ?_) rfl (by kernel_rfl) (by kernel_rfl) (by kernel_rfl) (fun _ _ _ h => h) (Or.inl ⟨by rfl, ?rt⟩) (by assumption) ?_; case rt => (intro w hSw; (try dsimp only at hSw); go_simp; (try with_reducible rfl))); (try simp only [Act.put, List.getElem_toArray, List.getElem_cons_succ, List.getElem_cons_zero, List.setIfInBounds_toArray, List.set_cons_zero, List.set_cons_succ])
      (refine wpAnyH_take (i := 6) (v := ?_) rfl (by kernel_rfl) (by kernel_rfl) (by kernel_rfl) (fun _ _ _ h => h) (Or.inl ⟨by rfl, ?rt⟩) (by assumption) ?_; case rt => (intro w hSw; (try dsimp only at hSw); go_simp; (try with_reducible rfl))); (try simp only [Act.put, List.getElem_toArray, List.getElem_cons_succ, List.getElem_cons_zero, List.setIfInBounds_toArray, List.set_cons_zero, List.set_cons_succ])
      (refine wpAnyH_take (i := 7) (v := ?_) rfl (by kernel_rfl) (by kernel_rfl) (by kernel_rfl) (fun _ _ _ h => h) (Or.inl ⟨by rfl, ?rt⟩) (by assumption) ?_; case rt => (intro w hSw; (try dsimp only at hSw); go_simp; (try with_reducible rfl))); (try simp only [Act.put, List.getElem_toArray, List.getElem_cons_succ, List.getElem_cons_zero, List.setIfInBounds_toArray, List.set_cons_zero, List.set_cons_succ])
      (refine wpAnyH_ready (rs := [3]) (by kernel_rfl) (by simp) ?_; refine AllReadyH.cons rfl (fun K hK => ?_) AllReadyH.nil; go_simp; refine (CC.out _).mono ?_; rintro e w1 ⟨rfl, hb1⟩; refine hK.out _ _ (keepB (by assumption) hb1) (fun hHeld => ?_); clear hK K); (try simp only [Act.put, List.getElem_toArray, List.getElem_cons_succ, List.getElem_cons_zero, List.setIfInBounds_toArray, List.set_cons_zero, List.set_cons_succ])
      (refine wpAnyH_ready (rs := [4]) (by kernel_rfl) (by simp) ?_; refine AllReadyH.cons rfl (fun K hK => ?_) AllReadyH.nil; go_simp; refine (SQ2.out _).mono ?_; rintro e w1 ⟨rfl, hb1⟩; refine hK.out _ _ (keepB (by assumption) hb1) (fun hHeld => ?_); clear hK K); (try simp only [Act.put, List.getElem_toArray, List.getElem_cons_succ, List.getElem_cons_zero, List.setIfInBounds_toArray, List.set_cons_zero, List.set_cons_succ])
      (refine wpAnyH_take (i := 8) (v := ?_) rfl (by kernel_rfl) (by kernel_rfl) (by kernel_rfl) (fun _ _ _ h => h) (Or.inl ⟨by rfl, ?rt⟩) (by assumption) ?_; case rt => (intro w hSw; (try dsimp only at hSw); go_simp; (try with_reducible rfl))); (try simp only [Act.put, List.getElem_toArray, List.getElem_cons_succ, List.getElem_cons_zero, List.setIfInBounds_toArray, List.set_cons_zero, List.set_cons_succ])
      refine wpAnyH_done (by kernel_rfl) ?_ _
      rw [HWR.out]
      have hb5 := hHeld.1
      clear hHeld
      by_cases hd : D ≤ r * r
      · rw [if_pos hd] at hmt
        have y1 := Bc hb5 hwr HX.out.1
        have y2 := Bc hb5 hwr HX.out.2.1
        have hwr5 := Bl hb5 hwr
        have bX := Ba (Bt bA hb5) (.cells #[.int .i64 x1, .int .i64 x2] 42)
        have O5 := Lib.hid (row_below HO.out bX)
        have B5 := Lib.hid (Bt HB.out bX)
        have L5 := Lib.hid (sl_lit (enc := encH) (w := w1) (cs := #[.int .i64 x1, .int .i64 x2]) (t := 42) (b := w1.heap.size) [(x1, x2)] rfl rfl (by unfold maxLen; simp))
        clear bA hb5 bX hwr HX
        go_wp2_with (at_builtin; refine wpl_app2 apH rfl _ _ rfl wq.heap.size (by rfl) (by rfl) O5.out rfl L5.out (by simp; omega) B5.out.size ?_; intro v7 w7 hown7 hgrow7 hat7 hnil7; have O7 := Lib.hid hown7; have B7 := Lib.hid (grownB B5.out O5.out hgrow7); clear hown7 hgrow7 hat7 hnil7)
        go_roundw
        case measure => simp only [intOf]; omega
        case rel => exact ⟨k + 1, by omega, by go_num, B7.out, by rw [hmt.out]; exact O7.out⟩
      · rw [if_neg hd, List.append_nil] at hmt
        have O5 := Lib.hid (row_below HO.out (Bt bA hb5))
        have B5 := Lib.hid (Bt HB.out (Bt bA hb5))
        rw [← hmt.out] at O5
        clear bA hb5 hwr HX
        go_wp2
        go_roundw
        case measure => simp only [intOf]; omega
        case rel => exact ⟨k + 1, by omega, by go_num, B5.out, O5.out⟩
    · have hin : k = B.length := by omega
      subst hin
      have HO2 := Lib.hid HO.out
      rw [List.take_length] at HO2
      have RP2 := Lib.hid (RP.out _ _ (row_sl lenH HO2.out rfl))
      have HS := Lib.hid (show w.heap.size ≤ wr.heap.size from Nat.le_trans (Nat.le_of_lt H1.out.2.1) HB.out.size)
      clear HO
      go_wp2_with fail
      refine RP2.out.mono ?_
      rintro e w5 ⟨v5, rfl, ho5, _, hb5⟩
      go_wp2
      go_ret
      exact ⟨_, rfl, row_mono ho5 HS.out, Bt (Bt H1.out.2.2 HB.out) hb5⟩
end Go.Proofs.YtahichjiphjapaaGreatDoor
