/-
  Package tiles: Put, Drop.
-/
import Derived.Test.YtmeinjkpbijaeaaDoorTh14
import Derived.Test.YtmeinjkpbijaeaaDoorTu14
namespace Go.Proofs.YtmeinjkpbijaeaaDoor
set_option linter.unusedSimpArgs false
set_option linter.unusedVariables false
open Go.RowKit Go.Sort Go.Lib Go.Shelf

theorem enFree : ∀ args w, (callFunc 28 args).run Tryd.prog w = .ok (.enter 28 args) w := enters_of Tryd.func28 (by kernel_rfl) rfl
theorem enBlocked : ∀ args w, (callFunc 39 args).run Tryd.prog w = .ok (.enter 39 args) w := enters_of Tryd.func39 (by kernel_rfl) rfl
theorem free_filter {c l : List Int} (h : ∀ t ∈ l, 0 ≤ t ∧ t < (c.length : Int)) : l.filter (freeT c) = freeL c l := by
  unfold freeL
  refine List.filter_congr fun t ht => ?_
  unfold freeT
  rw [hasT_iff.2 (h t ht), Bool.true_and]
theorem free_any {c l : List Int} (h : ∀ t ∈ l, 0 ≤ t ∧ t < (c.length : Int)) : l.any (freeT c) = anyL c l := by
  unfold anyL
  rw [Bool.eq_iff_iff, List.any_eq_true, List.any_eq_true]
  refine ⟨fun ⟨t, ht, e⟩ => ⟨t, ht, ?_⟩, fun ⟨t, ht, e⟩ => ⟨t, ht, ?_⟩⟩
  · unfold freeT at e
    rw [hasT_iff.2 (h t ht), Bool.true_and] at e
    exact e
  · unfold freeT
    rw [hasT_iff.2 (h t ht), Bool.true_and]
    exact e
section
variable {pa : Nat} {g : Gd} {c : List Int} {M : Nat → Prop} {w : World}
theorem tells_free (hp : MpAt 74 w M pa g c) : Tells 28 (ptP pa) w (freeT c) := fun _ hb t => mfree_call (hp.below hb) t
theorem tells_blocked (hp : MpAt 74 w M pa g c) : Tells 39 (ptP pa) w (blkT c) := fun _ hb t => mblocked_call (hp.below hb) t
set_option maxHeartbeats 4000000 in
set_option maxRecDepth 100000 in
theorem put_call (hp : MpAt 74 w M pa g c) (hM : ∀ b, M b → b < w.heap.size) (hB : Bdd c 1000) (b : Bx4) :
    Calls Tryd.prog 20 #[ptP pa, bxV b] w fun e w' => ∃ v, e = .returned v ∧ OwnI w' w.heap.size v (freeL c (und g b)) ∧ MpAt 74 w' M pa g (upd 1 c (und g b)) ∧ Tch M w w' := by
  have UC := Lib.hid (fun W' => tunder_call g b W')
  have HP := Lib.hid hp
  have hl := hp.lt
  have UM : Hid (∀ t ∈ und g b, 0 ≤ t ∧ t < (c.length : Int)) := Lib.hid (fun t ht => by rw [hp.len]; exact und_mem ht)
  have UN := Lib.hid (und_nodup g b)
  have ULn : (und g b).length ≤ 1024 := Nat.le_trans (und_len g b) (ntl_cast hp.ok).2.1
  have HB := Lib.hid hB
  have HM := Lib.hid hM
  obtain ⟨blk, cap, hI, -⟩ := hp.open
  obtain ⟨c0, c1, c2, c3, c4, -⟩ := hI.cells
  generalize und g b = l at *
  obtain ⟨W, H, S, X, Y⟩ := g
  obtain ⟨b1, b2, b3, b4⟩ := b
  dsimp only at c0 c1 c2 c3 c4
  obtain ⟨w1, hw1⟩ : ∃ w1, w1 = w.alloc (.cells #[.int .i64 b1, .int .i64 b2, .int .i64 b3, .int .i64 b4] 37) := ⟨_, rfl⟩
  have B1 : Hid (RowKit.Below w.heap.size w w1) := Lib.hid (by rw [hw1]; exact (by repeat (first | with_reducible exact Below.refl _ _ | with_reducible assumption | with_reducible apply Ba | with_reducible apply Bd | with_reducible apply Bn | with_reducible apply Bg | (with_reducible refine Bs ?_ (by first | (simp; done) | (simp; omega)) _) | (with_reducible refine Bt ?_ (by assumption)) | (with_reducible refine Bt ?_ (Gr.below (by assumption))))))
  have k1 : w1.heap[w.heap.size]? = some (.cells #[.int .i64 b1, .int .i64 b2, .int .i64 b3, .int .i64 b4] 37) := by rw [hw1]; exact heap_alloc_new w _
  obtain ⟨y1, y2, y3, y4⟩ := cells4 k1
  have hz1 := cell_lt y1
  replace c0 := Bc B1.out hl c0
  replace c1 := Bc B1.out hl c1
  replace c2 := Bc B1.out hl c2
  replace c3 := Bc B1.out hl c3
  replace c4 := Bc B1.out hl c4
  have hl1 := Bl B1.out hl
  have HW := Lib.hid hw1
  have HLN := Lib.hid hp.len
  clear hw1 k1 hI hp hB hM
  unfold ptP at *
  go_enter Tryd.func20, Tryd.ntmps20
  go_wp2_with fail
  rw [← HW.out]
  refine wp_region_held_drew (S := (fun w' => Below (w1).heap.size (w1) w' ∧ ∀ b_1 o, b_1 < (w1).heap.size → w'.cell? ⟨b_1, o, none⟩ = (w1).cell? ⟨b_1, o, none⟩)) (by kernel_rfl) (keep0 _) (fun hHeld => ?_)
  (refine wpAnyH_take (i := 0) (v := ?_) rfl (by kernel_rfl) (by kernel_rfl) (by kernel_rfl) (fun _ _ _ h => h) (Or.inl ⟨by rfl, ?rt⟩) (by assumption) ?_; case rt => (intro w hSw; (try dsimp only at hSw); go_simp; (try with_reducible rfl))); (try simp only [Act.put, List.getElem_toArray, List.getElem_cons_succ, List.getElem_cons_zero, List.setIfInBounds_toArray, List.set_cons_zero, List.set_cons_succ])
  (refine wpAnyH_take (i := 1) (v := ?_) rfl (by kernel_rfl) (by kernel_rfl) (by kernel_rfl) (fun _ _ _ h => h) (Or.inl ⟨by rfl, ?rt⟩) (by assumption) ?_; case rt => (intro w hSw; (try dsimp only at hSw); go_simp; (try with_reducible rfl))); (try simp only [Act.put, List.getElem_toArray, List.getElem_cons_succ, List.getElem_cons_zero, List.setIfInBounds_toArray, List.set_cons_zero, List.set_cons_succ])
  (refine wpAnyH_take (i := 2) (v := ?_) rfl (by kernel_rfl) (by kernel_rfl) (by kernel_rfl) (fun _ _ _ h => h) (Or.inl ⟨by rfl, ?rt⟩) (by assumption) ?_; case rt => (intro w hSw; (try dsimp only at hSw); go_simp; (try with_reducible rfl))); (try simp only [Act.put, List.getElem_toArray, List.getElem_cons_succ, List.getElem_cons_zero, List.setIfInBounds_toArray, List.set_cons_zero, List.set_cons_succ])
  (refine wpAnyH_take (i := 3) (v := ?_) rfl (by kernel_rfl) (by kernel_rfl) (by kernel_rfl) (fun _ _ _ h => h) (Or.inl ⟨by rfl, ?rt⟩) (by assumption) ?_; case rt => (intro w hSw; (try dsimp only at hSw); go_simp; (try with_reducible rfl))); (try simp only [Act.put, List.getElem_toArray, List.getElem_cons_succ, List.getElem_cons_zero, List.setIfInBounds_toArray, List.set_cons_zero, List.set_cons_succ])
  (refine wpAnyH_take (i := 4) (v := ?_) rfl (by kernel_rfl) (by kernel_rfl) (by kernel_rfl) (fun _ _ _ h => h) (Or.inl ⟨by rfl, ?rt⟩) (by assumption) ?_; case rt => (intro w hSw; (try dsimp only at hSw); go_simp; (try with_reducible rfl))); (try simp only [Act.put, List.getElem_toArray, List.getElem_cons_succ, List.getElem_cons_zero, List.setIfInBounds_toArray, List.set_cons_zero, List.set_cons_succ])
  (refine wpAnyH_ready (rs := [5]) (by kernel_rfl) (by simp) ?_; refine AllReadyH.cons rfl (fun K hK => ?_) AllReadyH.nil; go_simp; refine (UC.out _).mono ?_; rintro e w2 ⟨v, rfl, ho, hb2⟩; have OU := Lib.hid (And.intro ho hHeld.1.size); refine hK.out _ _ (keepB (by assumption) hb2) (fun hHeld => ?_); clear hK K ho hb2); (try simp only [Act.put, List.getElem_toArray, List.getElem_cons_succ, List.getElem_cons_zero, List.setIfInBounds_toArray, List.set_cons_zero, List.set_cons_succ])
  (refine wpAnyH_take (i := 6) (v := ?_) rfl (by kernel_rfl) (by kernel_rfl) (by kernel_rfl) (fun _ _ _ h => h) (Or.inl ⟨by rfl, ?rt⟩) (by assumption) ?_; case rt => (intro w hSw; (try dsimp only at hSw); go_simp; (try with_reducible rfl))); (try simp only [Act.put, List.getElem_toArray, List.getElem_cons_succ, List.getElem_cons_zero, List.setIfInBounds_toArray, List.set_cons_zero, List.set_cons_succ])
  refine wpAnyH_done (by kernel_rfl) ?_ _
  have B2 := Lib.hid (Bt B1.out hHeld.1)
  have OU2 := Lib.hid (row_mono OU.out.1 (Nat.le_trans (Nat.le_of_lt hz1) OU.out.2))
  have HP2 := Lib.hid (HP.out.below B2.out)
  have hsw := B2.out.size
  clear c0 c1 c2 c3 c4 y1 y2 y3 y4 hHeld OU
  have TH := Lib.hid (these_call 28 (ptP pa) enFree (freeT c) l v w2 (row_sl lenI OU2.out rfl) ULn (tells_free HP2.out))
  rw [free_filter UM.out] at TH
  obtain ⟨fl, hfl⟩ : ∃ fl, fl = freeL c l := ⟨_, rfl⟩
  have HFL := Lib.hid hfl
  rw [← hfl] at TH
  clear hfl
  unfold ptP at TH
  go_wp2_with fail
  refine TH.out.mono ?_
  rintro e w3 ⟨v3, rfl, ho3, hb3⟩
  have O3 := Lib.hid (row_mono ho3 hsw)
  have OU3 := Lib.hid (row_below OU2.out hb3)
  have HP3 := Lib.hid (HP2.out.below hb3)
  have B3 := Lib.hid (Bt B2.out hb3)
  clear ho3 hb3 TH
  obtain ⟨q, cp, rfl, -, -, hq⟩ := row_val OU2.out
  go_wp2_with fail
  go_loopw [21] (fun i wr => ∃ k : Nat, k ≤ l.length ∧ i = .int .i64 k ∧ MpAt 74 wr M pa ⟨W, H, S, X, Y⟩ (upd (1) c (l.take k)) ∧ Tch M w3 wr) (fun i _ => l.length - (intOf i).toNat)
  case atStart => exact ⟨0, Nat.zero_le _, rfl, HP3.out, Tch.refl _ _⟩
  case round =>
    obtain ⟨k, hk, rfl, hm, ht⟩ := hrel
    have HT := Lib.hid ht
    have HMp := Lib.hid hm
    by_cases hkn : k < l.length
    · have hkz : (k : Int) < (l.length : Int) := by omega
      obtain ⟨gu, rfl, hgu, hou⟩ := hq (by omega)
      have hgb := row_base0 OU2.out hou
      have cu := row_cell1 encI1 OU3.out k hkn
      have hgu3 := cell_lt cu
      replace cu := ht.cell hgu3 (fun e => by have := HM.out _ e; omega) cu
      have hgur := ht.lt hgu3
      have hmem : l[k]! ∈ l := by rw [getElem!_pos l k hkn]; exact List.getElem_mem hkn
      obtain ⟨t0, t1⟩ := UM.out _ hmem
      have hbf := upd_before hkn UN.out (1) (c := c) (fun t h => ⟨(UM.out t h).1, by have := UM.out t h; omega⟩)
      have htk := upd_take hkn (1) c
      have hmm := True.intro
      unfold bmp at htk
      rw [hbf] at htk
      generalize l[k]! = tz at *
      obtain ⟨t, rfl⟩ : ∃ t : Nat, tz = t := ⟨tz.toNat, by omega⟩
      rw [Int.toNat_natCast] at hbf htk
      try rw [Int.toNat_natCast] at hmm
      have hct : t < c.length := by omega
      have hcl := upd_len (1) c (l.take k)
      obtain ⟨bk, cap, hI, h1, h2, h3, h4, h5, h6⟩ := hm.open
      obtain ⟨-, -, -, -, -, d5⟩ := hI.cells
      have hlr := hI.lt
      obtain ⟨e1, f1⟩ := hI.get (j := t) (by omega)
      obtain ⟨P1, T1⟩ := hI.cell hm.far t (c[t]! + (1))
      rw [← htk] at P1
      have bdt := HB.out t hct
      have HP1 := Lib.hid (show MpAt 74 _ M pa ⟨W, H, S, X, Y⟩ (upd (1) c (l.take (k + 1))) from ⟨⟨_, P1⟩, hm.ok, by rw [upd_len]; rw [upd_len] at hcl; exact HLN.out, hm.far⟩)
      have HT1 := Lib.hid (ht.more T1)
      rw [hbf] at e1
      rw [hcl] at d5 h1
      have htz : (t : Int) < (c.length : Int) := by omega
      generalize c[t]! = x at *
      clear P1 T1 hI hm ht htk hbf hmem
      generalize c.length = n at *
      go_wp2
      go_roundw
      case measure => simp only [intOf]; omega
      case rel => exact ⟨k + 1, by omega, by go_num, HP1.out, HT1.out⟩
    · obtain rfl : k = l.length := by omega
      rw [List.take_length] at HMp
      clear hm ht
      go_wp2
      go_ret
      have T0 : Tch M w wr := (Tch.of B3.out).more HT.out
      have O3' := O3.out
      rw [HFL.out] at O3'
      exact ⟨v3, rfl, row_keep O3' (fun gg e => HT.out.block gg (row_lt O3' e) (fun q => by have := HM.out _ q; have := row_base0 O3' e; omega)), HMp.out, T0⟩
set_option maxHeartbeats 4000000 in
set_option maxRecDepth 100000 in
theorem drop_none (hp : MpAt 74 w M pa g c) (hM : ∀ b, M b → b < w.heap.size) (hB : Bdd c 1000) (b : Bx4) (hn : anyL c (und g b) = true) (eN : TypeId × Value) (hgl : w.cell? ⟨3, 0, none⟩ = some (.iface eN.1 eN.2)) :
    Calls Tryd.prog 22 #[ptP pa, bxV b] w fun e w' => e = .returned (.tuple #[.slice none 0 0, .iface eN.1 eN.2]) ∧ RowKit.Below w.heap.size w w' := by
  have UC := Lib.hid (fun W' => tunder_call g b W')
  have HP := Lib.hid hp
  have hl := hp.lt
  have UM : Hid (∀ t ∈ und g b, 0 ≤ t ∧ t < (c.length : Int)) := Lib.hid (fun t ht => by rw [hp.len]; exact und_mem ht)
  have UN := Lib.hid (und_nodup g b)
  have ULn : (und g b).length ≤ 1024 := Nat.le_trans (und_len g b) (ntl_cast hp.ok).2.1
  have HB := Lib.hid hB
  have HM := Lib.hid hM
  obtain ⟨blk, cap, hI, -⟩ := hp.open
  obtain ⟨c0, c1, c2, c3, c4, -⟩ := hI.cells
  generalize und g b = l at *
  obtain ⟨W, H, S, X, Y⟩ := g
  obtain ⟨b1, b2, b3, b4⟩ := b
  dsimp only at c0 c1 c2 c3 c4
  obtain ⟨w1, hw1⟩ : ∃ w1, w1 = w.alloc (.cells #[.int .i64 b1, .int .i64 b2, .int .i64 b3, .int .i64 b4] 37) := ⟨_, rfl⟩
  have B1 : Hid (RowKit.Below w.heap.size w w1) := Lib.hid (by rw [hw1]; exact (by repeat (first | with_reducible exact Below.refl _ _ | with_reducible assumption | with_reducible apply Ba | with_reducible apply Bd | with_reducible apply Bn | with_reducible apply Bg | (with_reducible refine Bs ?_ (by first | (simp; done) | (simp; omega)) _) | (with_reducible refine Bt ?_ (by assumption)) | (with_reducible refine Bt ?_ (Gr.below (by assumption))))))
  have k1 : w1.heap[w.heap.size]? = some (.cells #[.int .i64 b1, .int .i64 b2, .int .i64 b3, .int .i64 b4] 37) := by rw [hw1]; exact heap_alloc_new w _
  obtain ⟨y1, y2, y3, y4⟩ := cells4 k1
  have hz1 := cell_lt y1
  replace c0 := Bc B1.out hl c0
  replace c1 := Bc B1.out hl c1
  replace c2 := Bc B1.out hl c2
  replace c3 := Bc B1.out hl c3
  replace c4 := Bc B1.out hl c4
  have hl1 := Bl B1.out hl
  have HW := Lib.hid hw1
  have HLN := Lib.hid hp.len
  have HAN := Lib.hid hn
  have HGL := Lib.hid hgl
  clear hn hgl
  clear hw1 k1 hI hp hB hM
  unfold ptP at *
  go_enter Tryd.func22, Tryd.ntmps22
  go_wp2_with fail
  rw [← HW.out]
  refine wp_region_held_drew (S := (fun w' => Below (w1).heap.size (w1) w' ∧ ∀ b_1 o, b_1 < (w1).heap.size → w'.cell? ⟨b_1, o, none⟩ = (w1).cell? ⟨b_1, o, none⟩)) (by kernel_rfl) (keep0 _) (fun hHeld => ?_)
  (refine wpAnyH_take (i := 0) (v := ?_) rfl (by kernel_rfl) (by kernel_rfl) (by kernel_rfl) (fun _ _ _ h => h) (Or.inl ⟨by rfl, ?rt⟩) (by assumption) ?_; case rt => (intro w hSw; (try dsimp only at hSw); go_simp; (try with_reducible rfl))); (try simp only [Act.put, List.getElem_toArray, List.getElem_cons_succ, List.getElem_cons_zero, List.setIfInBounds_toArray, List.set_cons_zero, List.set_cons_succ])
  (refine wpAnyH_take (i := 1) (v := ?_) rfl (by kernel_rfl) (by kernel_rfl) (by kernel_rfl) (fun _ _ _ h => h) (Or.inl ⟨by rfl, ?rt⟩) (by assumption) ?_; case rt => (intro w hSw; (try dsimp only at hSw); go_simp; (try with_reducible rfl))); (try simp only [Act.put, List.getElem_toArray, List.getElem_cons_succ, List.getElem_cons_zero, List.setIfInBounds_toArray, List.set_cons_zero, List.set_cons_succ])
  (refine wpAnyH_take (i := 2) (v := ?_) rfl (by kernel_rfl) (by kernel_rfl) (by kernel_rfl) (fun _ _ _ h => h) (Or.inl ⟨by rfl, ?rt⟩) (by assumption) ?_; case rt => (intro w hSw; (try dsimp only at hSw); go_simp; (try with_reducible rfl))); (try simp only [Act.put, List.getElem_toArray, List.getElem_cons_succ, List.getElem_cons_zero, List.setIfInBounds_toArray, List.set_cons_zero, List.set_cons_succ])
  (refine wpAnyH_take (i := 3) (v := ?_) rfl (by kernel_rfl) (by kernel_rfl) (by kernel_rfl) (fun _ _ _ h => h) (Or.inl ⟨by rfl, ?rt⟩) (by assumption) ?_; case rt => (intro w hSw; (try dsimp only at hSw); go_simp; (try with_reducible rfl))); (try simp only [Act.put, List.getElem_toArray, List.getElem_cons_succ, List.getElem_cons_zero, List.setIfInBounds_toArray, List.set_cons_zero, List.set_cons_succ])
  (refine wpAnyH_take (i := 4) (v := ?_) rfl (by kernel_rfl) (by kernel_rfl) (by kernel_rfl) (fun _ _ _ h => h) (Or.inl ⟨by rfl, ?rt⟩) (by assumption) ?_; case rt => (intro w hSw; (try dsimp only at hSw); go_simp; (try with_reducible rfl))); (try simp only [Act.put, List.getElem_toArray, List.getElem_cons_succ, List.getElem_cons_zero, List.setIfInBounds_toArray, List.set_cons_zero, List.set_cons_succ])
  (refine wpAnyH_ready (rs := [5]) (by kernel_rfl) (by simp) ?_; refine AllReadyH.cons rfl (fun K hK => ?_) AllReadyH.nil; go_simp; refine (UC.out _).mono ?_; rintro e w2 ⟨v, rfl, ho, hb2⟩; have OU := Lib.hid (And.intro ho hHeld.1.size); refine hK.out _ _ (keepB (by assumption) hb2) (fun hHeld => ?_); clear hK K ho hb2); (try simp only [Act.put, List.getElem_toArray, List.getElem_cons_succ, List.getElem_cons_zero, List.setIfInBounds_toArray, List.set_cons_zero, List.set_cons_succ])
  (refine wpAnyH_take (i := 6) (v := ?_) rfl (by kernel_rfl) (by kernel_rfl) (by kernel_rfl) (fun _ _ _ h => h) (Or.inl ⟨by rfl, ?rt⟩) (by assumption) ?_; case rt => (intro w hSw; (try dsimp only at hSw); go_simp; (try with_reducible rfl))); (try simp only [Act.put, List.getElem_toArray, List.getElem_cons_succ, List.getElem_cons_zero, List.setIfInBounds_toArray, List.set_cons_zero, List.set_cons_succ])
  refine wpAnyH_done (by kernel_rfl) ?_ _
  have B2 := Lib.hid (Bt B1.out hHeld.1)
  have OU2 := Lib.hid (row_mono OU.out.1 (Nat.le_trans (Nat.le_of_lt hz1) OU.out.2))
  have HP2 := Lib.hid (HP.out.below B2.out)
  have hsw := B2.out.size
  clear c0 c1 c2 c3 c4 y1 y2 y3 y4 hHeld OU
  have CT := Lib.hid (containsI_call 28 (ptP pa) enFree (freeT c) l v w2 (row_sl lenI OU2.out rfl) ULn (tells_free HP2.out))
  rw [free_any UM.out, HAN.out] at CT
  have hg2 := Bc B2.out (cell_lt HGL.out) HGL.out
  have hg2l := cell_lt hg2
  unfold ptP at CT
  go_wp2_with fail
  refine CT.out.mono ?_
  rintro e w3 ⟨rfl, rfl⟩
  go_wp2
  go_region
  go_wp2
  exact bodyPost_ret (v := .tuple #[.slice none 0 0, .iface eN.1 eN.2]) (by simp [results, Tryd.results22, go_sem, *]) rfl ⟨rfl, by have := B2.out; exact (by repeat (first | with_reducible exact Below.refl _ _ | with_reducible assumption | with_reducible apply Ba | with_reducible apply Bd | with_reducible apply Bn | with_reducible apply Bg | (with_reducible refine Bs ?_ (by first | (simp; done) | (simp; omega)) _) | (with_reducible refine Bt ?_ (by assumption)) | (with_reducible refine Bt ?_ (Gr.below (by assumption)))))⟩
set_option maxHeartbeats 4000000 in
set_option maxRecDepth 100000 in
theorem drop_call (hp : MpAt 74 w M pa g c) (hM : ∀ b, M b → b < w.heap.size) (hB : Bdd c 1000) (b : Bx4) (hn : anyL c (und g b) = false) :
    Calls Tryd.prog 22 #[ptP pa, bxV b] w fun e w' => ∃ v, e = .returned (.tuple #[v, .nilIface]) ∧ OwnI w' w.heap.size v (freeL (upd (-1) c (und g b)) (und g b)) ∧ MpAt 74 w' M pa g (upd (-1) c (und g b)) ∧ Tch M w w' := by
  have UC := Lib.hid (fun W' => tunder_call g b W')
  have HP := Lib.hid hp
  have hl := hp.lt
  have UM : Hid (∀ t ∈ und g b, 0 ≤ t ∧ t < (c.length : Int)) := Lib.hid (fun t ht => by rw [hp.len]; exact und_mem ht)
  have UN := Lib.hid (und_nodup g b)
  have ULn : (und g b).length ≤ 1024 := Nat.le_trans (und_len g b) (ntl_cast hp.ok).2.1
  have HB := Lib.hid hB
  have HM := Lib.hid hM
  obtain ⟨blk, cap, hI, -⟩ := hp.open
  obtain ⟨c0, c1, c2, c3, c4, -⟩ := hI.cells
  generalize und g b = l at *
  obtain ⟨W, H, S, X, Y⟩ := g
  obtain ⟨b1, b2, b3, b4⟩ := b
  dsimp only at c0 c1 c2 c3 c4
  obtain ⟨w1, hw1⟩ : ∃ w1, w1 = w.alloc (.cells #[.int .i64 b1, .int .i64 b2, .int .i64 b3, .int .i64 b4] 37) := ⟨_, rfl⟩
  have B1 : Hid (RowKit.Below w.heap.size w w1) := Lib.hid (by rw [hw1]; exact (by repeat (first | with_reducible exact Below.refl _ _ | with_reducible assumption | with_reducible apply Ba | with_reducible apply Bd | with_reducible apply Bn | with_reducible apply Bg | (with_reducible refine Bs ?_ (by first | (simp; done) | (simp; omega)) _) | (with_reducible refine Bt ?_ (by assumption)) | (with_reducible refine Bt ?_ (Gr.below (by assumption))))))
  have k1 : w1.heap[w.heap.size]? = some (.cells #[.int .i64 b1, .int .i64 b2, .int .i64 b3, .int .i64 b4] 37) := by rw [hw1]; exact heap_alloc_new w _
  obtain ⟨y1, y2, y3, y4⟩ := cells4 k1
  have hz1 := cell_lt y1
  replace c0 := Bc B1.out hl c0
  replace c1 := Bc B1.out hl c1
  replace c2 := Bc B1.out hl c2
  replace c3 := Bc B1.out hl c3
  replace c4 := Bc B1.out hl c4
  have hl1 := Bl B1.out hl
  have HW := Lib.hid hw1
  have HLN := Lib.hid hp.len
  have HAN := Lib.hid hn
  clear hn
  clear hw1 k1 hI hp hB hM
  unfold ptP at *
  go_enter Tryd.func22, Tryd.ntmps22
  go_wp2_with fail
  rw [← HW.out]
  refine wp_region_held_drew (S := (fun w' => Below (w1).heap.size (w1) w' ∧ ∀ b_1 o, b_1 < (w1).heap.size → w'.cell? ⟨b_1, o, none⟩ = (w1).cell? ⟨b_1, o, none⟩)) (by kernel_rfl) (keep0 _) (fun hHeld => ?_)
  (refine wpAnyH_take (i := 0) (v := ?_) rfl (by kernel_rfl) (by kernel_rfl) (by kernel_rfl) (fun _ _ _ h => h) (Or.inl ⟨by rfl, ?rt⟩) (by assumption) ?_; case rt => (intro w hSw; (try dsimp only at hSw); go_simp; (try with_reducible rfl))); (try simp only [Act.put, List.getElem_toArray, List.getElem_cons_succ, List.getElem_cons_zero, List.setIfInBounds_toArray, List.set_cons_zero, List.set_cons_succ])
  (refine wpAnyH_take (i := 1) (v := ?_) rfl (by kernel_rfl) (by kernel_rfl) (by kernel_rfl) (fun _ _ _ h => h) (Or.inl ⟨by rfl, ?rt⟩) (by assumption) ?_; case rt => (intro w hSw; (try dsimp only at hSw); go_simp; (try with_reducible rfl))); (try simp only [Act.put, List.getElem_toArray, List.getElem_cons_succ, List.getElem_cons_zero, List.setIfInBounds_toArray, List.set_cons_zero, List.set_cons_succ])
  (refine wpAnyH_take (i := 2) (v := ?_) rfl (by kernel_rfl) (by kernel_rfl) (by kernel_rfl) (fun _ _ _ h => h) (Or.inl ⟨by rfl, ?rt⟩) (by assumption) ?_; case rt => (intro w hSw; (try dsimp only at hSw); go_simp; (try with_reducible rfl))); (try simp only [Act.put, List.getElem_toArray, List.getElem_cons_succ, List.getElem_cons_zero, List.setIfInBounds_toArray, List.set_cons_zero, List.set_cons_succ])
  (refine wpAnyH_take (i := 3) (v := ?_) rfl (by kernel_rfl) (by kernel_rfl) (by kernel_rfl) (fun _ _ _ h => h) (Or.inl ⟨by rfl, ?rt⟩) (by assumption) ?_; case rt => (intro w hSw; (try dsimp only at hSw); go_simp; (try with_reducible rfl))); (try simp only [Act.put, List.getElem_toArray, List.getElem_cons_succ, List.getElem_cons_zero, List.setIfInBounds_toArray, List.set_cons_zero, List.set_cons_succ])
  (refine wpAnyH_take (i := 4) (v := ?_) rfl (by kernel_rfl) (by kernel_rfl) (by kernel_rfl) (fun _ _ _ h => h) (Or.inl ⟨by rfl, ?rt⟩) (by assumption) ?_; case rt => (intro w hSw; (try dsimp only at hSw); go_simp; (try with_reducible rfl))); (try simp only [Act.put, List.getElem_toArray, List.getElem_cons_succ, List.getElem_cons_zero, List.setIfInBounds_toArray, List.set_cons_zero, List.set_cons_succ])
  (refine wpAnyH_ready (rs := [5]) (by kernel_rfl) (by simp) ?_; refine AllReadyH.cons rfl (fun K hK => ?_) AllReadyH.nil; go_simp; refine (UC.out _).mono ?_; rintro e w2 ⟨v, rfl, ho, hb2⟩; have OU := Lib.hid (And.intro ho hHeld.1.size); refine hK.out _ _ (keepB (by assumption) hb2) (fun hHeld => ?_); clear hK K ho hb2); (try simp only [Act.put, List.getElem_toArray, List.getElem_cons_succ, List.getElem_cons_zero, List.setIfInBounds_toArray, List.set_cons_zero, List.set_cons_succ])
  (refine wpAnyH_take (i := 6) (v := ?_) rfl (by kernel_rfl) (by kernel_rfl) (by kernel_rfl) (fun _ _ _ h => h) (Or.inl ⟨by rfl, ?rt⟩) (by assumption) ?_; case rt => (intro w hSw; (try dsimp only at hSw); go_simp; (try with_reducible rfl))); (try simp only [Act.put, List.getElem_toArray, List.getElem_cons_succ, List.getElem_cons_zero, List.setIfInBounds_toArray, List.set_cons_zero, List.set_cons_succ])
  refine wpAnyH_done (by kernel_rfl) ?_ _
  have B2 := Lib.hid (Bt B1.out hHeld.1)
  have OU2 := Lib.hid (row_mono OU.out.1 (Nat.le_trans (Nat.le_of_lt hz1) OU.out.2))
  have HP2 := Lib.hid (HP.out.below B2.out)
  have hsw := B2.out.size
  clear c0 c1 c2 c3 c4 y1 y2 y3 y4 hHeld OU
  have CT := Lib.hid (containsI_call 28 (ptP pa) enFree (freeT c) l v w2 (row_sl lenI OU2.out rfl) ULn (tells_free HP2.out))
  rw [free_any UM.out, HAN.out] at CT
  have HP3 := HP2
  have OU3 := OU2
  unfold ptP at CT
  go_wp2_with fail
  refine CT.out.mono ?_
  rintro e w3 ⟨rfl, rfl⟩
  clear CT
  have HNZ : Hid (∀ t ∈ l, c[t.toNat]! ≠ 0) := Lib.hid (fun t ht e => by have := HAN.out; unfold anyL at this; rw [List.any_eq_false] at this; exact this t ht (decide_eq_true e))
  obtain ⟨q, cp, rfl, -, -, hq⟩ := row_val OU2.out
  go_wp2_with fail
  go_loopw [22] (fun i wr => ∃ k : Nat, k ≤ l.length ∧ i = .int .i64 k ∧ MpAt 74 wr M pa ⟨W, H, S, X, Y⟩ (upd (-1) c (l.take k)) ∧ Tch M w2 wr) (fun i _ => l.length - (intOf i).toNat)
  case atStart => exact ⟨0, Nat.zero_le _, rfl, HP3.out, Tch.refl _ _⟩
  case round =>
    obtain ⟨k, hk, rfl, hm, ht⟩ := hrel
    have HT := Lib.hid ht
    have HMp := Lib.hid hm
    by_cases hkn : k < l.length
    · have hkz : (k : Int) < (l.length : Int) := by omega
      obtain ⟨gu, rfl, hgu, hou⟩ := hq (by omega)
      have hgb := row_base0 OU2.out hou
      have cu := row_cell1 encI1 OU3.out k hkn
      have hgu3 := cell_lt cu
      replace cu := ht.cell hgu3 (fun e => by have := HM.out _ e; omega) cu
      have hgur := ht.lt hgu3
      have hmem : l[k]! ∈ l := by rw [getElem!_pos l k hkn]; exact List.getElem_mem hkn
      obtain ⟨t0, t1⟩ := UM.out _ hmem
      have hbf := upd_before hkn UN.out (-1) (c := c) (fun t h => ⟨(UM.out t h).1, by have := UM.out t h; omega⟩)
      have htk := upd_take hkn (-1) c
      have hmm := HNZ.out _ hmem
      unfold bmp at htk
      rw [hbf] at htk
      generalize l[k]! = tz at *
      obtain ⟨t, rfl⟩ : ∃ t : Nat, tz = t := ⟨tz.toNat, by omega⟩
      rw [Int.toNat_natCast] at hbf htk
      try rw [Int.toNat_natCast] at hmm
      have hct : t < c.length := by omega
      have hcl := upd_len (-1) c (l.take k)
      obtain ⟨bk, cap, hI, h1, h2, h3, h4, h5, h6⟩ := hm.open
      obtain ⟨-, -, -, -, -, d5⟩ := hI.cells
      have hlr := hI.lt
      obtain ⟨e1, f1⟩ := hI.get (j := t) (by omega)
      obtain ⟨P1, T1⟩ := hI.cell hm.far t (c[t]! + (-1))
      rw [← htk] at P1
      have bdt := HB.out t hct
      have HP1 := Lib.hid (show MpAt 74 _ M pa ⟨W, H, S, X, Y⟩ (upd (-1) c (l.take (k + 1))) from ⟨⟨_, P1⟩, hm.ok, by rw [upd_len]; rw [upd_len] at hcl; exact HLN.out, hm.far⟩)
      have HT1 := Lib.hid (ht.more T1)
      rw [hbf] at e1
      rw [hcl] at d5 h1
      rw [show c[t]! + (-1) = c[t]! - 1 by omega] at HP1 HT1
      have htz : (t : Int) < (c.length : Int) := by omega
      generalize c[t]! = x at *
      clear P1 T1 hI hm ht htk hbf hmem
      generalize c.length = n at *
      go_wp2
      go_roundw
      case measure => simp only [intOf]; omega
      case rel => exact ⟨k + 1, by omega, by go_num, HP1.out, HT1.out⟩
    · obtain rfl : k = l.length := by omega
      rw [List.take_length] at HMp
      clear hm ht
      have UM2 : Hid (∀ t ∈ l, 0 ≤ t ∧ t < ((upd (-1) c l).length : Int)) := Lib.hid (fun t ht => by rw [upd_len]; exact UM.out t ht)
      have OUr := Lib.hid (row_keep OU3.out (fun gg e => HT.out.block gg (row_lt OU3.out e) (fun q => by have := HM.out _ q; have := row_base0 OU3.out e; omega)))
      have TH := Lib.hid (these_call 28 (ptP pa) enFree (freeT (upd (-1) c l)) l (.slice q l.length cp) wr (row_sl lenI OUr.out rfl) ULn (tells_free HMp.out))
      rw [free_filter UM2.out] at TH
      have hsr := HT.out.size
      obtain ⟨fl, hfl⟩ : ∃ fl, fl = freeL (upd (-1) c l) l := ⟨_, rfl⟩
      have HFL := Lib.hid hfl
      rw [← hfl] at TH
      clear hfl
      unfold ptP at TH
      go_wp2_with fail
      refine TH.out.mono ?_
      rintro e w4 ⟨v4, rfl, ho4, hb4⟩
      have O4 := Lib.hid (row_mono ho4 (Nat.le_trans hsw hsr))
      have HP4 := Lib.hid (HMp.out.below hb4)
      have T4 := Lib.hid (((Tch.of B2.out).more HT.out).bel hb4)
      clear ho4 hb4 TH
      go_wp2
      exact bodyPost_ret (v := .tuple #[v4, .nilIface]) (by simp [results, Tryd.results22, go_sem, *]) rfl ⟨_, rfl, by rw [← HFL.out]; exact O4.out, HP4.out, T4.out⟩
end
end Go.Proofs.YtmeinjkpbijaeaaDoor
