import Derived.Test.YtaehendpdfpibaaGreatDoorZ24
import Derived.Test.YtaehendpdfpibaaGreatDoorZ22
import Derived.Test.YtaehendpdfpibaaGreatDoorZ29
import Derived.Test.YtaehendpdfpibaaGreatDoorZ0
import Derived.Test.YtaehendpdfpibaaGreatDoorZ15
import Derived.Test.YtaehendpdfpibaaGreatDoorZ13

/-
  Does a store hold what its model does: same (written by mksm8.py).
-/
namespace Go.Proofs.YtaehendpdfpibaaGreatDoor
set_option linter.unusedSimpArgs false
set_option linter.unusedVariables false
open Go.RowKit Go.Sort Go.Lib Go.Shelf

theorem entE_at {L : List En} {r : En} (h : fndE L r.1 = some r.2) : entE L r.1 = r ∧ takeEN L r.1 = 0 := by
  unfold entE takeEN
  rw [h, rowE_of h]
  exact ⟨rfl, rfl⟩
section
variable {base ps pr : Nat} {w w' : World} {L : List En} {A : Nat → Addr}
set_option maxHeartbeats 8000000 in
set_option maxRecDepth 100000 in
theorem samed_call (hTW : TwoS base w ps pr L) (hA : Era base w A) :
    Calls Tryz.prog 13 #[psP ps, rsP pr] w fun e w' => e = .returned (.bool true) ∧ RowKit.Below w.heap.size w w' := by
  obtain ⟨N, M, hS, hR, hMN⟩ := hTW
  have HG := Lib.hid hS.good
  have HS := Lib.hid hS
  have HR := Lib.hid hR
  have HA := Lib.hid hA
  have h128 := HG.out.len
  have hmn : (mskE L).length ≤ 32 := HG.out.msk
  have CM1 := Lib.hid (masksS hS)
  have CM2 : Hid (∀ W, RowKit.Below w.heap.size w W → Calls Tryz.prog 53 #[rsP pr] W fun e w' => ∃ v, e = .returned v ∧ w'.ownsRow W.heap.size 54 1 v (mskE L).length (flat encW (mskE L)) ∧ RowKit.Below W.heap.size W w') := fun W h => rmasksS (hR.below h) HG.out.right
  have CI1 : Hid (∀ W m, m < 1024 → RowKit.Below w.heap.size w W → Calls Tryz.prog 55 #[psP ps, .int .u64 (m : Nat)] W fun e w' => ∃ v, e = .returned v ∧ Sl encH w' v (inE L m) ∧ RowKit.Below W.heap.size W w') := fun W m hm h => inS2 (hS.below h) m (by omega)
  have CI2 : Hid (∀ W m, RowKit.Below w.heap.size w W → Calls Tryz.prog 56 #[rsP pr, .int .u64 (m : Nat)] W fun e w' => ∃ v, e = .returned v ∧ w'.ownsRow W.heap.size 31 2 v (inE L m).length (flat encH (inE L m)) ∧ RowKit.Below W.heap.size W w') := fun W m h => rinS (hR.below h) HG.out.right (by have := HG.out.len; omega) m
  have CL : Hid (∀ W, RowKit.Below w.heap.size w W → Calls Tryz.prog 54 #[psP ps] W fun e w' => e = .returned (.int .i64 L.length) ∧ RowKit.Below W.heap.size W w') := fun W h => (lenS (hS.below h)).mono fun e w' ⟨a, b⟩ => ⟨a, b ▸ Below.refl _ _⟩
  have HML := Lib.hid (show ∀ k, k < (mskE L).length → (mskE L)[k]! < 1024 from fun k hk => by
    rw [getElem!_pos _ k hk]
    exact ((mem_mskE L _).1 (List.getElem_mem hk)).1)
  obtain ⟨p, cap, N1, hbk, hls, hc1, hc2, _, _⟩ := hR.open
  have HB0 := Lib.hid hbk
  have HLS := Lib.hid hls
  obtain ⟨K, hK⟩ : ∃ K, K = mskE L := ⟨_, rfl⟩
  rw [← hK] at hmn CM1 CM2 HML
  clear hS hR hMN hA hbk hls hK
  go_enter Tryz.func13, Tryz.ntmps13
  go_wp2_with fail
  refine CM1.out.mono ?_
  rintro e w1 ⟨v1, rfl, ho1, hb1⟩
  have B1 := Lib.hid hb1
  have O1 := Lib.hid ho1
  obtain ⟨p1, c1, rfl, hd1, _, hp1⟩ := row_val ho1
  have HP1 := Lib.hid hp1
  clear ho1 hb1 hp1 CM1
  go_wp2_with fail
  refine (CM2.out _ B1.out).mono ?_
  rintro e w2 ⟨v2, rfl, ho2, hb2⟩
  have B2 := Lib.hid (Bt B1.out hb2)
  have O2 := Lib.hid ho2
  have O12 := Lib.hid (row_below O1.out hb2)
  obtain ⟨p2, c2, rfl, hd2, _, hp2⟩ := row_val ho2
  have HP2 := Lib.hid hp2
  have D2 := Lib.hid hb2
  clear ho2 hb2 hp2 CM2 O1
  obtain ⟨k0, kf⟩ := one_cell (blk_below HB0.out B2.out)
  have hlk := cell_lt k0
  have hKz : K.length ≤ 9223372036854775807 := by omega
  have hLz : L.length ≤ 9223372036854775807 := by omega
  go_wp2_with fail
  refine wp_region_held_drew (S := (fun w' => Below (w2).heap.size (w2) w' ∧ ∀ b_1 o, b_1 < (w2).heap.size → w'.cell? ⟨b_1, o, none⟩ = (w2).cell? ⟨b_1, o, none⟩)) (by kernel_rfl) (keep0 _) (fun hHeld => ?_)
  (refine wpAnyH_take (i := 0) (v := ?_) rfl (by kernel_rfl) (by kernel_rfl) (by kernel_rfl) (fun _ _ _ h => h) (Or.inl ⟨by rfl, ?rt⟩) (by assumption) ?_; case rt => (intro w hSw; (try dsimp only at hSw); go_simp; (try with_reducible rfl))); (try simp only [Act.put, List.getElem_toArray, List.getElem_cons_succ, List.getElem_cons_zero, List.setIfInBounds_toArray, List.set_cons_zero, List.set_cons_succ])
  (refine wpAnyH_take (i := 1) (v := ?_) rfl (by kernel_rfl) (by kernel_rfl) (by kernel_rfl) (fun _ _ _ h => h) (Or.inl ⟨by rfl, ?rt⟩) (by assumption) ?_; case rt => (intro w hSw; (try dsimp only at hSw); go_simp; (try with_reducible rfl))); (try simp only [Act.put, List.getElem_toArray, List.getElem_cons_succ, List.getElem_cons_zero, List.setIfInBounds_toArray, List.set_cons_zero, List.set_cons_succ])
  (refine wpAnyH_take (i := 2) (v := ?_) rfl (by kernel_rfl) (by kernel_rfl) (by kernel_rfl) (fun _ _ _ h => h) (Or.inl ⟨by rfl, ?rt⟩) (by assumption) ?_; case rt => (intro w hSw; (try dsimp only at hSw); go_simp; (try with_reducible rfl))); (try simp only [Act.put, List.getElem_toArray, List.getElem_cons_succ, List.getElem_cons_zero, List.setIfInBounds_toArray, List.set_cons_zero, List.set_cons_succ])
  (refine wpAnyH_take (i := 3) (v := ?_) rfl (by kernel_rfl) (by kernel_rfl) (by kernel_rfl) (fun _ _ _ h => h) (Or.inl ⟨by rfl, ?rt⟩) (by assumption) ?_; case rt => (intro w hSw; (try dsimp only at hSw); go_simp; (try with_reducible rfl))); (try simp only [Act.put, List.getElem_toArray, List.getElem_cons_succ, List.getElem_cons_zero, List.setIfInBounds_toArray, List.set_cons_zero, List.set_cons_succ])
  (refine wpAnyH_take (i := 4) (v := ?_) rfl (by kernel_rfl) (by kernel_rfl) (by kernel_rfl) (fun _ _ _ h => h) (Or.inl ⟨by rfl, ?rt⟩) (by assumption) ?_; case rt => (intro w hSw; (try dsimp only at hSw); go_simp; (try with_reducible rfl))); (try simp only [Act.put, List.getElem_toArray, List.getElem_cons_succ, List.getElem_cons_zero, List.setIfInBounds_toArray, List.set_cons_zero, List.set_cons_succ])
  (refine wpAnyH_take (i := 5) (v := ?_) rfl (by kernel_rfl) (by kernel_rfl) (by kernel_rfl) (fun _ _ _ h => h) (Or.inl ⟨by rfl, ?rt⟩) (by assumption) ?_; case rt => (intro w hSw; (try dsimp only at hSw); go_simp; (try with_reducible rfl))); (try simp only [Act.put, List.getElem_toArray, List.getElem_cons_succ, List.getElem_cons_zero, List.setIfInBounds_toArray, List.set_cons_zero, List.set_cons_succ])
  (try simp only [bne_self_eq_false])
  (refine wpAnyH_take (i := 6) (v := ?_) rfl (by kernel_rfl) (by kernel_rfl) (by kernel_rfl) (fun _ _ _ h => h) (Or.inl ⟨by rfl, ?rt⟩) (by assumption) ?_; case rt => (intro w hSw; (try dsimp only at hSw); go_simp; (try with_reducible rfl))); (try simp only [Act.put, List.getElem_toArray, List.getElem_cons_succ, List.getElem_cons_zero, List.setIfInBounds_toArray, List.set_cons_zero, List.set_cons_succ])
  (refine wpAnyH_take (i := 8) (v := ?_) rfl (by kernel_rfl) (by kernel_rfl) (by kernel_rfl) (fun _ _ _ h => h) (Or.inl ⟨by rfl, ?rt⟩) (by assumption) ?_; case rt => (intro w hSw; (try dsimp only at hSw); go_simp; (try with_reducible rfl))); (try simp only [Act.put, List.getElem_toArray, List.getElem_cons_succ, List.getElem_cons_zero, List.setIfInBounds_toArray, List.set_cons_zero, List.set_cons_succ])
  (refine wpAnyH_take (i := 9) (v := ?_) rfl (by kernel_rfl) (by kernel_rfl) (by kernel_rfl) (fun _ _ _ h => h) (Or.inl ⟨by rfl, ?rt⟩) (by assumption) ?_; case rt => (intro w hSw; (try dsimp only at hSw); go_simp; (try with_reducible rfl))); (try simp only [Act.put, List.getElem_toArray, List.getElem_cons_succ, List.getElem_cons_zero, List.setIfInBounds_toArray, List.set_cons_zero, List.set_cons_succ])
  (refine wpAnyH_take (i := 10) (v := ?_) rfl (by kernel_rfl) (by kernel_rfl) (by kernel_rfl) (fun _ _ _ h => h) (Or.inl ⟨by rfl, ?rt⟩) (by assumption) ?_; case rt => (intro w hSw; (try dsimp only at hSw); go_simp; (try with_reducible rfl))); (try simp only [Act.put, List.getElem_toArray, List.getElem_cons_succ, List.getElem_cons_zero, List.setIfInBounds_toArray, List.set_cons_zero, List.set_cons_succ])
  (refine wpAnyH_take (i := 11) (v := ?_) rfl (by kernel_rfl) (by kernel_rfl) (by kernel_rfl) (fun _ _ _ h => h) (Or.inl ⟨by rfl, ?rt⟩) (by assumption) ?_; case rt => (intro w hSw; (try dsimp only at hSw); go_simp; (try with_reducible rfl))); (try simp only [Act.put, List.getElem_toArray, List.getElem_cons_succ, List.getElem_cons_zero, List.setIfInBounds_toArray, List.set_cons_zero, List.set_cons_succ])
  (refine wpAnyH_take (i := 12) (v := ?_) rfl (by kernel_rfl) (by kernel_rfl) (by kernel_rfl) (fun _ _ _ h => h) (Or.inl ⟨by rfl, ?rt⟩) (by assumption) ?_; case rt => (intro w hSw; (try dsimp only at hSw); go_simp; (try with_reducible rfl))); (try simp only [Act.put, List.getElem_toArray, List.getElem_cons_succ, List.getElem_cons_zero, List.setIfInBounds_toArray, List.set_cons_zero, List.set_cons_succ])
  (refine wpAnyH_ready (rs := [7]) (by kernel_rfl) (by simp) ?_; refine AllReadyH.cons rfl (fun K hK => ?_) AllReadyH.nil; go_simp; refine (CL.out _ (Bt B2.out hHeld.1)).mono ?_; rintro e w1 ⟨rfl, hb1⟩; refine hK.out _ _ (keepB (by assumption) hb1) (fun hHeld => ?_); clear hK K); (try simp only [Act.put, List.getElem_toArray, List.getElem_cons_succ, List.getElem_cons_zero, List.setIfInBounds_toArray, List.set_cons_zero, List.set_cons_succ])
  (refine wpAnyH_take (i := 13) (v := ?_) rfl (by kernel_rfl) (by kernel_rfl) (by kernel_rfl) (fun _ _ _ h => h) (Or.inl ⟨by rfl, ?rt⟩) (by assumption) ?_; case rt => (intro w hSw; (try dsimp only at hSw); go_simp; (try with_reducible rfl))); (try simp only [Act.put, List.getElem_toArray, List.getElem_cons_succ, List.getElem_cons_zero, List.setIfInBounds_toArray, List.set_cons_zero, List.set_cons_succ])
  (try simp only [bne_self_eq_false])
  (refine wpAnyH_take (i := 14) (v := ?_) rfl (by kernel_rfl) (by kernel_rfl) (by kernel_rfl) (fun _ _ _ h => h) (Or.inl ⟨by rfl, ?rt⟩) (by assumption) ?_; case rt => (intro w hSw; (try dsimp only at hSw); go_simp; (try with_reducible rfl))); (try simp only [Act.put, List.getElem_toArray, List.getElem_cons_succ, List.getElem_cons_zero, List.setIfInBounds_toArray, List.set_cons_zero, List.set_cons_succ])
  refine wpAnyH_done (by kernel_rfl) ?_ _
  have B3 := Lib.hid (Bt B2.out hHeld.1)
  have E3 := Lib.hid hHeld.1
  clear hb1
  obtain ⟨w3, hw3⟩ : ∃ w3, RowKit.Below w2.heap.size w2 w3 ∧ w3 = _ := ⟨_, hHeld.1, rfl⟩
  rw [← hw3.2]
  replace B3 := Lib.hid (Bt B2.out hw3.1)
  replace E3 := Lib.hid hw3.1
  clear hw3 hHeld k0 kf hlk CL
  go_wp2
  go_loopw [33] (fun s33 wr => ∃ k : Nat, s33 = .int .i64 k ∧ k ≤ K.length ∧ Hid (RowKit.Below w3.heap.size w3 wr)) (fun i _ => K.length - (intOf i).toNat)
  case atStart => exact ⟨0, rfl, Nat.zero_le _, Lib.hid (Below.refl _ _)⟩
  case round =>
    obtain ⟨k, rfl, hk, HB⟩ := hrel
    by_cases hkn : k < K.length
    · have hkz : (k : Int) < (K.length : Int) := by omega
      obtain ⟨g1, rfl, hg1, _⟩ := HP1.out (by omega)
      obtain ⟨g2, rfl, hg2, _⟩ := HP2.out (by omega)
      have d1 : w2.cell? ⟨g1, k, none⟩ = some (.int .u64 ((K[k]! : Nat) : Int)) := by
        have := cellsI O12.out k (.int .u64 ((K[k]! : Nat) : Int)) (by rw [List.getElem?_map, List.getElem?_eq_getElem hkn, getElem!_pos K k hkn]; rfl)
        rwa [Nat.zero_add] at this
      have d2 : w2.cell? ⟨g2, k, none⟩ = some (.int .u64 ((K[k]! : Nat) : Int)) := by
        have := row_cellsK lenW O2.out hkn 0 _ rfl
        simpa using this
      have hm1 := HML.out k hkn
      have BR := Lib.hid (Bt E3.out HB.out)
      have hg12 : g1 < w2.heap.size := Nat.lt_of_lt_of_le hg1 D2.out.size
      replace d1 := Bc BR.out hg12 d1
      replace d2 := Bc BR.out hg2 d2
      have hgr1 := Bl BR.out hg12
      have hgr2 := Bl BR.out hg2
      have B5 := Lib.hid (Bt B2.out BR.out)
      generalize K[k]! = m at *
      have C1 : Hid (∀ W, RowKit.Below wr.heap.size wr W → Calls Tryz.prog 55 #[psP ps, .int .u64 (m : Nat)] W fun e w' => ∃ v, e = .returned v ∧ Sl encH w' v (inE L m) ∧ RowKit.Below W.heap.size W w') := fun W h => CI1.out W m hm1 (Bt B5.out h)
      have C2 : Hid (∀ W, RowKit.Below wr.heap.size wr W → Calls Tryz.prog 56 #[rsP pr, .int .u64 (m : Nat)] W fun e w' => ∃ v, e = .returned v ∧ w'.ownsRow W.heap.size 31 2 v (inE L m).length (flat encH (inE L m)) ∧ RowKit.Below W.heap.size W w') := fun W h => CI2.out W m (Bt B5.out h)
      go_wp2_with fail
      refine wp_region_held_drew (S := (fun w' => Below (wr).heap.size (wr) w' ∧ ∀ b_1 o, b_1 < (wr).heap.size → w'.cell? ⟨b_1, o, none⟩ = (wr).cell? ⟨b_1, o, none⟩)) (by kernel_rfl) (keep0 _) (fun hHeld => ?_)
      (refine wpAnyH_take (i := 0) (v := ?_) rfl (by kernel_rfl) (by kernel_rfl) (by kernel_rfl) (fun _ _ _ h => h) (Or.inl ⟨by rfl, ?rt⟩) (by assumption) ?_; case rt => (intro w hSw; (try dsimp only at hSw); go_simp; (try with_reducible rfl))); (try simp only [Act.put, List.getElem_toArray, List.getElem_cons_succ, List.getElem_cons_zero, List.setIfInBounds_toArray, List.set_cons_zero, List.set_cons_succ])
      (refine wpAnyH_take (i := 1) (v := ?_) rfl (by kernel_rfl) (by kernel_rfl) (by kernel_rfl) (fun _ _ _ h => h) (Or.inl ⟨by rfl, ?rt⟩) (by assumption) ?_; case rt => (intro w hSw; (try dsimp only at hSw); go_simp; (try with_reducible rfl))); (try simp only [Act.put, List.getElem_toArray, List.getElem_cons_succ, List.getElem_cons_zero, List.setIfInBounds_toArray, List.set_cons_zero, List.set_cons_succ])
      (refine wpAnyH_take (i := 2) (v := ?_) rfl (by kernel_rfl) (by kernel_rfl) (by kernel_rfl) (fun _ _ _ h => h) (Or.inl ⟨by rfl, ?rt⟩) (by assumption) ?_; case rt => (intro w hSw; (try dsimp only at hSw); go_simp; (try with_reducible rfl))); (try simp only [Act.put, List.getElem_toArray, List.getElem_cons_succ, List.getElem_cons_zero, List.setIfInBounds_toArray, List.set_cons_zero, List.set_cons_succ])
      (refine wpAnyH_take (i := 3) (v := ?_) rfl (by kernel_rfl) (by kernel_rfl) (by kernel_rfl) (fun _ _ _ h => h) (Or.inl ⟨by rfl, ?rt⟩) (by assumption) ?_; case rt => (intro w hSw; (try dsimp only at hSw); go_simp; (try with_reducible rfl))); (try simp only [Act.put, List.getElem_toArray, List.getElem_cons_succ, List.getElem_cons_zero, List.setIfInBounds_toArray, List.set_cons_zero, List.set_cons_succ])
      (refine wpAnyH_take (i := 4) (v := ?_) rfl (by kernel_rfl) (by kernel_rfl) (by kernel_rfl) (fun _ _ _ h => h) (Or.inl ⟨by rfl, ?rt⟩) (by assumption) ?_; case rt => (intro w hSw; (try dsimp only at hSw); go_simp; (try with_reducible rfl))); (try simp only [Act.put, List.getElem_toArray, List.getElem_cons_succ, List.getElem_cons_zero, List.setIfInBounds_toArray, List.set_cons_zero, List.set_cons_succ])
      (refine wpAnyH_take (i := 5) (v := ?_) rfl (by kernel_rfl) (by kernel_rfl) (by kernel_rfl) (fun _ _ _ h => h) (Or.inl ⟨by rfl, ?rt⟩) (by assumption) ?_; case rt => (intro w hSw; (try dsimp only at hSw); go_simp; (try with_reducible rfl))); (try simp only [Act.put, List.getElem_toArray, List.getElem_cons_succ, List.getElem_cons_zero, List.setIfInBounds_toArray, List.set_cons_zero, List.set_cons_succ])
      (refine wpAnyH_take (i := 6) (v := ?_) rfl (by kernel_rfl) (by kernel_rfl) (by kernel_rfl) (fun _ _ _ h => h) (Or.inl ⟨by rfl, ?rt⟩) (by assumption) ?_; case rt => (intro w hSw; (try dsimp only at hSw); go_simp; (try with_reducible rfl))); (try simp only [Act.put, List.getElem_toArray, List.getElem_cons_succ, List.getElem_cons_zero, List.setIfInBounds_toArray, List.set_cons_zero, List.set_cons_succ])
      (refine wpAnyH_take (i := 7) (v := ?_) rfl (by kernel_rfl) (by kernel_rfl) (by kernel_rfl) (fun _ _ _ h => h) (Or.inl ⟨by rfl, ?rt⟩) (by assumption) ?_; case rt => (intro w hSw; (try dsimp only at hSw); go_simp; (try with_reducible rfl))); (try simp only [Act.put, List.getElem_toArray, List.getElem_cons_succ, List.getElem_cons_zero, List.setIfInBounds_toArray, List.set_cons_zero, List.set_cons_succ])
      (refine wpAnyH_take (i := 8) (v := ?_) rfl (by kernel_rfl) (by kernel_rfl) (by kernel_rfl) (fun _ _ _ h => h) (Or.inl ⟨by rfl, ?rt⟩) (by assumption) ?_; case rt => (intro w hSw; (try dsimp only at hSw); go_simp; (try with_reducible rfl))); (try simp only [Act.put, List.getElem_toArray, List.getElem_cons_succ, List.getElem_cons_zero, List.setIfInBounds_toArray, List.set_cons_zero, List.set_cons_succ])
      (try simp only [bne_self_eq_false])
      (refine wpAnyH_take (i := 9) (v := ?_) rfl (by kernel_rfl) (by kernel_rfl) (by kernel_rfl) (fun _ _ _ h => h) (Or.inl ⟨by rfl, ?rt⟩) (by assumption) ?_; case rt => (intro w hSw; (try dsimp only at hSw); go_simp; (try with_reducible rfl))); (try simp only [Act.put, List.getElem_toArray, List.getElem_cons_succ, List.getElem_cons_zero, List.setIfInBounds_toArray, List.set_cons_zero, List.set_cons_succ])
      (refine wpAnyH_take (i := 10) (v := ?_) rfl (by kernel_rfl) (by kernel_rfl) (by kernel_rfl) (fun _ _ _ h => h) (Or.inl ⟨by rfl, ?rt⟩) (by assumption) ?_; case rt => (intro w hSw; (try dsimp only at hSw); go_simp; (try with_reducible rfl))); (try simp only [Act.put, List.getElem_toArray, List.getElem_cons_succ, List.getElem_cons_zero, List.setIfInBounds_toArray, List.set_cons_zero, List.set_cons_succ])
      (refine wpAnyH_take (i := 11) (v := ?_) rfl (by kernel_rfl) (by kernel_rfl) (by kernel_rfl) (fun _ _ _ h => h) (Or.inl ⟨by rfl, ?rt⟩) (by assumption) ?_; case rt => (intro w hSw; (try dsimp only at hSw); go_simp; (try with_reducible rfl))); (try simp only [Act.put, List.getElem_toArray, List.getElem_cons_succ, List.getElem_cons_zero, List.setIfInBounds_toArray, List.set_cons_zero, List.set_cons_succ])
      (refine wpAnyH_take (i := 12) (v := ?_) rfl (by kernel_rfl) (by kernel_rfl) (by kernel_rfl) (fun _ _ _ h => h) (Or.inl ⟨by rfl, ?rt⟩) (by assumption) ?_; case rt => (intro w hSw; (try dsimp only at hSw); go_simp; (try with_reducible rfl))); (try simp only [Act.put, List.getElem_toArray, List.getElem_cons_succ, List.getElem_cons_zero, List.setIfInBounds_toArray, List.set_cons_zero, List.set_cons_succ])
      (refine wpAnyH_take (i := 13) (v := ?_) rfl (by kernel_rfl) (by kernel_rfl) (by kernel_rfl) (fun _ _ _ h => h) (Or.inl ⟨by rfl, ?rt⟩) (by assumption) ?_; case rt => (intro w hSw; (try dsimp only at hSw); go_simp; (try with_reducible rfl))); (try simp only [Act.put, List.getElem_toArray, List.getElem_cons_succ, List.getElem_cons_zero, List.setIfInBounds_toArray, List.set_cons_zero, List.set_cons_succ])
      (refine wpAnyH_take (i := 14) (v := ?_) rfl (by kernel_rfl) (by kernel_rfl) (by kernel_rfl) (fun _ _ _ h => h) (Or.inl ⟨by rfl, ?rt⟩) (by assumption) ?_; case rt => (intro w hSw; (try dsimp only at hSw); go_simp; (try with_reducible rfl))); (try simp only [Act.put, List.getElem_toArray, List.getElem_cons_succ, List.getElem_cons_zero, List.setIfInBounds_toArray, List.set_cons_zero, List.set_cons_succ])
      (refine wpAnyH_take (i := 16) (v := ?_) rfl (by kernel_rfl) (by kernel_rfl) (by kernel_rfl) (fun _ _ _ h => h) (Or.inl ⟨by rfl, ?rt⟩) (by assumption) ?_; case rt => (intro w hSw; (try dsimp only at hSw); go_simp; (try with_reducible rfl))); (try simp only [Act.put, List.getElem_toArray, List.getElem_cons_succ, List.getElem_cons_zero, List.setIfInBounds_toArray, List.set_cons_zero, List.set_cons_succ])
      (refine wpAnyH_take (i := 17) (v := ?_) rfl (by kernel_rfl) (by kernel_rfl) (by kernel_rfl) (fun _ _ _ h => h) (Or.inl ⟨by rfl, ?rt⟩) (by assumption) ?_; case rt => (intro w hSw; (try dsimp only at hSw); go_simp; (try with_reducible rfl))); (try simp only [Act.put, List.getElem_toArray, List.getElem_cons_succ, List.getElem_cons_zero, List.setIfInBounds_toArray, List.set_cons_zero, List.set_cons_succ])
      (refine wpAnyH_take (i := 18) (v := ?_) rfl (by kernel_rfl) (by kernel_rfl) (by kernel_rfl) (fun _ _ _ h => h) (Or.inl ⟨by rfl, ?rt⟩) (by assumption) ?_; case rt => (intro w hSw; (try dsimp only at hSw); go_simp; (try with_reducible rfl))); (try simp only [Act.put, List.getElem_toArray, List.getElem_cons_succ, List.getElem_cons_zero, List.setIfInBounds_toArray, List.set_cons_zero, List.set_cons_succ])
      (refine wpAnyH_take (i := 19) (v := ?_) rfl (by kernel_rfl) (by kernel_rfl) (by kernel_rfl) (fun _ _ _ h => h) (Or.inl ⟨by rfl, ?rt⟩) (by assumption) ?_; case rt => (intro w hSw; (try dsimp only at hSw); go_simp; (try with_reducible rfl))); (try simp only [Act.put, List.getElem_toArray, List.getElem_cons_succ, List.getElem_cons_zero, List.setIfInBounds_toArray, List.set_cons_zero, List.set_cons_succ])
      (refine wpAnyH_take (i := 20) (v := ?_) rfl (by kernel_rfl) (by kernel_rfl) (by kernel_rfl) (fun _ _ _ h => h) (Or.inl ⟨by rfl, ?rt⟩) (by assumption) ?_; case rt => (intro w hSw; (try dsimp only at hSw); go_simp; (try with_reducible rfl))); (try simp only [Act.put, List.getElem_toArray, List.getElem_cons_succ, List.getElem_cons_zero, List.setIfInBounds_toArray, List.set_cons_zero, List.set_cons_succ])
      refine wpAnyH_ready (rs := [15]) (by kernel_rfl) (by simp) ?_
      refine AllReadyH.cons rfl (fun K hK => ?_) AllReadyH.nil
      go_simp
      refine (C1.out _ hHeld.1).mono ?_
      rintro e w5 ⟨v5, rfl, hs5, hb5⟩
      refine hK.out _ _ (keepB (by assumption) hb5) (fun hHeld => ?_)
      clear hK K
      (try simp only [Act.put, List.getElem_toArray, List.getElem_cons_succ, List.getElem_cons_zero, List.setIfInBounds_toArray, List.set_cons_zero, List.set_cons_succ])
      refine wpAnyH_ready (rs := [21]) (by kernel_rfl) (by simp) ?_
      refine AllReadyH.cons rfl (fun K hK => ?_) AllReadyH.nil
      go_simp
      refine (C2.out _ hHeld.1).mono ?_
      rintro e w6 ⟨v6, rfl, ho6, hb6⟩
      refine hK.out _ _ (keepB (by assumption) hb6) (fun hHeld => ?_)
      clear hK K
      (try simp only [Act.put, List.getElem_toArray, List.getElem_cons_succ, List.getElem_cons_zero, List.setIfInBounds_toArray, List.set_cons_zero, List.set_cons_succ])
      have CS := Lib.hid (sameH_call (inE L m) (inE L m) v5 v6 w6 (hs5.below hb6) (row_sl lenH ho6 rfl))
      rw [decide_eq_true (rfl : inE L m = inE L m)] at CS
      refine wpAnyH_ready (rs := [22]) (by kernel_rfl) (by simp) ?_
      refine AllReadyH.cons rfl (fun K hK => ?_) AllReadyH.nil
      go_simp
      refine (CS.out).mono ?_
      rintro e w7 ⟨rfl, hg7⟩
      have hb7 := hg7.below
      refine hK.out _ _ (keepB (by assumption) hb7) (fun hHeld => ?_)
      clear hK K
      (try simp only [Act.put, List.getElem_toArray, List.getElem_cons_succ, List.getElem_cons_zero, List.setIfInBounds_toArray, List.set_cons_zero, List.set_cons_succ])
      (refine wpAnyH_take (i := 23) (v := ?_) rfl (by kernel_rfl) (by kernel_rfl) (by kernel_rfl) (fun _ _ _ h => h) (Or.inl ⟨by rfl, ?rt⟩) (by assumption) ?_; case rt => (intro w hSw; (try dsimp only at hSw); go_simp; (try with_reducible rfl))); (try simp only [Act.put, List.getElem_toArray, List.getElem_cons_succ, List.getElem_cons_zero, List.setIfInBounds_toArray, List.set_cons_zero, List.set_cons_succ])
      (refine wpAnyH_take (i := 24) (v := ?_) rfl (by kernel_rfl) (by kernel_rfl) (by kernel_rfl) (fun _ _ _ h => h) (Or.inl ⟨by rfl, ?rt⟩) (by assumption) ?_; case rt => (intro w hSw; (try dsimp only at hSw); go_simp; (try with_reducible rfl))); (try simp only [Act.put, List.getElem_toArray, List.getElem_cons_succ, List.getElem_cons_zero, List.setIfInBounds_toArray, List.set_cons_zero, List.set_cons_succ])
      refine wpAnyH_done (by kernel_rfl) ?_ _
      have B7 := Lib.hid (Bt HB.out hHeld.1)
      clear hHeld hs5 hb5 ho6 hb6 hg7 hb7 CS d1 d2 hgr1 hgr2
      go_wp2
      go_roundw
      case measure => simp [intOf]; omega
      case rel => exact ⟨k + 1, by go_num, by omega, B7⟩
    · have BR := Lib.hid (Bt B3.out HB.out)
      obtain ⟨k0, kf⟩ := one_cell (blk_below HB0.out BR.out)
      have hlk := cell_lt k0
      generalize hwq : wr = wq at *
      clear hwq wr
      have HSq := Lib.hid (HS.out.below BR.out)
      have HAq := Lib.hid (HA.out.below BR.out)
      clear CI1 CI2 HML O12 O2 HP1 HP2 HB
      go_wp2
      go_loopw [67] (fun s67 wr => ∃ k : Nat, s67 = .int .i64 k ∧ k ≤ L.length ∧ Hid (RowKit.Below wq.heap.size wq wr)) (fun i _ => L.length - (intOf i).toNat)
      case atStart => exact ⟨0, rfl, Nat.zero_le _, Lib.hid (Below.refl _ _)⟩
      case round =>
        obtain ⟨k, rfl, hk, HZ⟩ := hrel
        have BZ := Lib.hid (Bt BR.out HZ.out)
        by_cases hkn : k < L.length
        · have hkz : (k : Int) < (L.length : Int) := by omega
          have hmem : L[k]! ∈ L := by rw [getElem!_pos L k hkn]; exact List.getElem_mem _
          have hfn : fndE L L[k]!.1 = some L[k]!.2 := (fndE_some HG.out.rise).2 hmem
          have hok := HG.out.hd _ hmem
          obtain ⟨g, o, sp, c, rfl, hg, _, d1, d2, d3, hsl, hq1, hq2⟩ := HLS.out.at hkn
          replace d1 := Bc BZ.out hg d1
          replace d2 := Bc BZ.out hg d2
          replace d3 := Bc BZ.out hg d3
          have hgr := Bl BZ.out hg
          generalize L[k]! = yy at *
          obtain ⟨⟨y1, y2⟩, yl⟩ := yy
          dsimp only at d1 d2 d3 hsl hfn hok hq1
          obtain ⟨n1, n2⟩ := entE_at (r := ((y1, y2), yl)) hfn
          dsimp only at n1 n2
          have bE := Ba (Below.refl _ wr) (.cells #[.int .i64 y1, .int .i64 y2, .slice sp yl.length c] 38)
          have E1 := Lib.hid (heap_alloc_new wr (.cells #[.int .i64 y1, .int .i64 y2, .slice sp yl.length c] 38))
          have BE := Lib.hid (Bt HZ.out bE)
          have CE := Lib.hid (entS (HSq.out.below BE.out) y1 y2 hok (HAq.out.below BE.out))
          rw [n1, n2, errV_no] at CE
          have SL := Lib.hid (hsl.sl.below (Bt BZ.out bE))
          have CH : Hid (∀ W, RowKit.Below wq.heap.size wq W → Calls Tryz.prog 17 #[psP ps, .agg #[.int .i64 y1, .int .i64 y2]] W fun e w' => e = .returned (.bool true) ∧ RowKit.Below W.heap.size W w') := fun W h => by
            have := hasS (HSq.out.below h) y1 y2 hok (HAq.out.below h)
            rwa [hfn] at this
          obtain ⟨⟨e0, e1, e2⟩, _, _, _⟩ := three_cells E1.out
          have hel := cell_lt e0
          clear n1 n2 hsl bE hmem hfn hok
          go_wp2_with fail
          refine CE.out.mono ?_
          rintro e w5 ⟨v5, rfl, hs5, hb5⟩
          obtain ⟨p5, c5, rfl, _, _, _⟩ := id hs5
          have bX := Ba (Below.refl _ w5) (.cells #[.int .i64 y1, .int .i64 y2, .slice p5 yl.length c5] 38)
          have X5 := Lib.hid (heap_alloc_new w5 (.cells #[.int .i64 y1, .int .i64 y2, .slice p5 yl.length c5] 38))
          have B5 := Lib.hid (Bt BE.out (Bt hb5 bX))
          have E5 := Lib.hid (blk_below E1.out hb5)
          have CS := Lib.hid (rsame_call y1 y2 y1 y2 yl yl _ _ (w5.alloc (.cells #[.int .i64 y1, .int .i64 y2, .slice p5 yl.length c5] 38)) (hs5.below bX) (SL.out.below (Bt hb5 bX)))
          rw [show (decide ((y1, y2) = (y1, y2)) && decide (yl = yl)) = true by simp] at CS
          obtain ⟨W5, hW5⟩ : ∃ W5, W5 = w5.alloc (.cells #[.int .i64 y1, .int .i64 y2, .slice p5 yl.length c5] 38) := ⟨_, rfl⟩
          have E6 := Lib.hid (blk_below E1.out (Bt hb5 bX))
          clear CE d1 d2 d3 hgr e0 e1 e2 hel hs5
          obtain ⟨⟨e0, e1, e2⟩, _, _, _⟩ := three_cells E5.out
          have hel := cell_lt e0
          rw [← hW5] at CS E6 B5
          clear hb5 bX
          go_wp2_with fail
          rw [← hW5]
          clear hW5
          refine CS.out.mono ?_
          rintro e w6 ⟨rfl, hg6⟩
          have B6 := Lib.hid (Bt B5.out hg6.below)
          have C6 := Lib.hid (CH.out _ B6.out)
          clear e0 e1 e2 hel
          obtain ⟨⟨e0, e1, e2⟩, _, _, _⟩ := three_cells (blk_below E6.out hg6.below)
          have hel := cell_lt e0
          clear hg6 CS
          go_wp2_with fail
          refine C6.out.mono ?_
          rintro e w7 ⟨rfl, hb7⟩
          have B7 := Lib.hid (Bt B6.out hb7)
          clear hb7 C6 e0 e1 e2 hel
          go_wp2
          go_roundw
          case measure => simp [intOf]; omega
          case rel => exact ⟨k + 1, by go_num, by omega, B7⟩
        · go_wp2
          go_ret
          exact ⟨rfl, BZ.out⟩
end
end Go.Proofs.YtaehendpdfpibaaGreatDoor

/-
  A store of the program's and the reference's, side by side, off the blocks Z: each call of one leaves the other.
-/
namespace Go.Proofs.YtaehendpdfpibaaGreatDoor
set_option linter.unusedSimpArgs false
set_option linter.unusedVariables false
open Go.RowKit Go.Sort Go.Lib Go.Shelf

/-- A call's block. -/
abbrev OpB8 (kd h1 h2 : Int) (rv : Value) (x1 x2 x3 : Int) : Obj := .cells #[.int .i64 kd, .int .i64 h1, .int .i64 h2, rv, .int .i64 x1, .int .i64 x2, .int .i64 x3] 36
theorem seven_cells {w : World} {b : Nat} {kd h1 h2 : Int} {rv : Value} {x1 x2 x3 : Int} (h : w.heap[b]? = some (OpB8 kd h1 h2 rv x1 x2 x3)) :
    w.cell? ⟨b, 0, none⟩ = some (.int .i64 kd) ∧ w.cell? ⟨b, 1, none⟩ = some (.int .i64 h1) ∧ w.cell? ⟨b, 2, none⟩ = some (.int .i64 h2) ∧ w.cell? ⟨b, 3, none⟩ = some rv ∧ w.cell? ⟨b, 4, none⟩ = some (.int .i64 x1) ∧ w.cell? ⟨b, 5, none⟩ = some (.int .i64 x2) ∧ w.cell? ⟨b, 6, none⟩ = some (.int .i64 x3) := by
  simp [World.cell?, h]
theorem atQ {w : World} {l : List Oq} {g o : Nat} (h : ∀ j u, (flat encQ l)[j]? = some u → w.cell? ⟨g, o + j, none⟩ = some u) {i : Nat} (hi : i < l.length) :
    w.cell? ⟨g, o + i * 7, none⟩ = some (.int .i64 l[i]!.1) ∧ w.cell? ⟨g, o + i * 7 + 1, none⟩ = some (.int .i64 l[i]!.2.1.1) ∧ w.cell? ⟨g, o + i * 7 + 2, none⟩ = some (.int .i64 l[i]!.2.1.2) ∧ w.cell? ⟨g, o + i * 7 + 3, none⟩ = some l[i]!.2.2.1.1 ∧
    w.cell? ⟨g, o + i * 7 + 4, none⟩ = some (.int .i64 l[i]!.2.2.2.1) ∧ w.cell? ⟨g, o + i * 7 + 5, none⟩ = some (.int .i64 l[i]!.2.2.2.2.1) ∧ w.cell? ⟨g, o + i * 7 + 6, none⟩ = some (.int .i64 l[i]!.2.2.2.2.2) :=
  ⟨sl_at lenQ h hi 0 _ rfl, sl_at lenQ h hi 1 _ rfl, sl_at lenQ h hi 2 _ rfl, sl_at lenQ h hi 3 _ rfl, sl_at lenQ h hi 4 _ rfl, sl_at lenQ h hi 5 _ rfl, sl_at lenQ h hi 6 _ rfl⟩
theorem moveEN_le (L : List En) (h : Hd) (l : List Vl) : moveEN L h l ≤ 2 := by unfold moveEN; split <;> omega
theorem chk_le (x : Vl) : chk x ≤ 5 := by
  unfold chk
  split
  · split <;> omega
  · omega
theorem putEN_le (L : List En) (h : Hd) (l : List Vl) : putEN L h l ≤ 10 := by
  unfold putEN
  repeat' split
  all_goals omega
theorem takeEN_le (L : List En) (h : Hd) : takeEN L h ≤ 10 := by unfold takeEN; split <;> omega
theorem addEN_le (L : List En) (h : Hd) (x : Vl) : addEN L h x ≤ 10 := by
  have h1 := moveEN_le L h (putV (rowE L h) x)
  have h2 := chk_le x
  unfold addEN
  repeat' split
  all_goals omega
theorem remEN_le (L : List En) (h : Hd) (k : Int) : remEN L h k ≤ 10 := by
  have h1 := moveEN_le L h (dropV (rowE L h) k)
  unfold remEN
  repeat' split
  all_goals omega
theorem setEN_le (L : List En) (h : Hd) (x : Vl) : setEN L h x ≤ 10 := by
  have h2 := chk_le x
  unfold setEN
  repeat' split
  all_goals omega
theorem getEN_le (L : List En) (h : Hd) (k : Int) : getEN L h k ≤ 10 := by
  unfold getEN
  repeat' split
  all_goals omega
section
variable {A : Nat → Addr}
theorem numV_call {w : World} (hE : Errs w A) (n : Nat) (hn : n ≤ 10) : Calls Tryz.prog 16 #[errV A n] w fun e w' => e = .returned (.int .i64 n) ∧ RowKit.Below w.heap.size w w' := by
  by_cases c : n = 0
  · subst c
    exact num_nil w
  · rw [errV_at A n c]
    have := num_any hE (n - 1) (by omega)
    rwa [show (((n - 1 : Nat) : Int) + 1) = (n : Int) by omega] at this
end
/-- The program's store of L1, the reference's of L2, apart; Z off both. -/
def PairS (Z : Nat → Prop) (base : Nat) (w : World) (ps pr : Nat) (L1 L2 : List En) : Prop :=
  ∃ N M, StoO N base w ps L1 ∧ RefS w M pr L2 ∧ (∀ b, M b → N b) ∧ (∀ b, Z b → N b ∧ ¬ M b)
def OffZ (base : Nat) (Z : Nat → Prop) : Nat → Prop := fun b => base ≤ b ∧ ¬ Z b
section
variable {Z : Nat → Prop} {base ps pr : Nat} {w w' W : World} {L L1 L2 L1' L2' : List En} {A : Nat → Addr}
theorem PairS.below (h : PairS Z base w ps pr L1 L2) (t : RowKit.Below w.heap.size w w') : PairS Z base w' ps pr L1 L2 := by
  obtain ⟨N, M, h1, h2, h3, h4⟩ := h
  exact ⟨N, M, h1.below t, h2.below t, h3, h4⟩
theorem PairS.kept {X : Nat → Prop} (h : PairS Z base w ps pr L1 L2) (t : Tch X w w') (hX : ∀ b, X b → Z b) : PairS Z base w' ps pr L1 L2 := by
  obtain ⟨N, M, h1, h2, h3, h4⟩ := h
  obtain ⟨M0, k1, k2, k3, k4⟩ := h1
  exact ⟨N, M, ⟨M0, k1.kept t (fun b e c => (k2 b e).2 (h4 b (hX b c)).1), k2, fun b e => Nat.lt_of_lt_of_le (k3 b e) t.size, Nat.le_trans k4 t.size⟩, h2.kept t (fun b e c => (h4 b (hX b c)).2 e), h3, h4⟩
theorem PairS.of (h : TwoS base w ps pr L) (t : RowKit.Below w.heap.size w W) (hz : ∀ b, Z b → w.heap.size ≤ b ∧ b < W.heap.size) : PairS Z base W ps pr L L := by
  obtain ⟨N, M, h1, h2, h3⟩ := h
  exact ⟨_, M, h1.off t, h2.below t, fun b e => .inl (h3 b e), fun b e => ⟨.inr (hz b e), fun c => by have := h2.lt b c; have := hz b e; omega⟩⟩
theorem PairS.more {Z' : Nat → Prop} (h : PairS Z base w ps pr L1 L2) (t : RowKit.Below w.heap.size w W) (hz : ∀ b, Z' b → Z b ∨ (w.heap.size ≤ b ∧ b < W.heap.size)) : PairS Z' base W ps pr L1 L2 := by
  obtain ⟨N, M, h1, h2, h3, h4⟩ := h
  exact ⟨_, M, h1.off t, h2.below t, fun b e => .inl (h3 b e), fun b e => (hz b e).elim (fun e => ⟨.inl (h4 b e).1, (h4 b e).2⟩) (fun e => ⟨.inr e, fun c => by have := h2.lt b c; omega⟩)⟩
theorem PairS.less {Z' : Nat → Prop} (h : PairS Z base w ps pr L1 L2) (hz : ∀ b, Z' b → Z b) : PairS Z' base w ps pr L1 L2 := by
  obtain ⟨N, M, h1, h2, h3, h4⟩ := h
  exact ⟨N, M, h1, h2, h3, fun b e => h4 b (hz b e)⟩
theorem PairS.lo (h : PairS Z base w ps pr L1 L2) : base ≤ w.heap.size := by
  obtain ⟨N, M, h1, h2, h3, h4⟩ := h
  exact h1.lo
theorem PairS.pr_lt (h : PairS Z base w ps pr L1 L2) : pr < w.heap.size ∧ ¬ Z pr := by
  obtain ⟨N, M, h1, h2, h3, h4⟩ := h
  obtain ⟨_, _, _, _, _, _, _, hMp, _⟩ := h2.open
  exact ⟨h2.lt pr hMp, fun c => (h4 pr c).2 hMp⟩
theorem PairS.zlt (h : PairS Z base w ps pr L1 L2) : ∀ b, Z b → b < w.heap.size := by
  obtain ⟨N, M, ⟨_, _, _, k3, _⟩, h2, h3, h4⟩ := h
  exact fun b e => k3 b (h4 b e).1
/-- Only from base on has it changed, and nothing of Z. -/
structure BZ (base : Nat) (Z : Nat → Prop) (w w' : World) : Prop where
  bel : RowKit.Below base w w'
  z : ∀ b, Z b → b < w.heap.size → w'.heap[b]? = w.heap[b]?
theorem BZ.bel2 {w1 w2 : World} (h : BZ base Z w w1) (t : RowKit.Below w1.heap.size w1 w2) (hlo : base ≤ w.heap.size) : BZ base Z w w2 :=
  ⟨h.bel.trans (t.mono (Nat.le_trans hlo h.bel.size)), fun b e hb => (t.block b (Nat.lt_of_lt_of_le hb h.bel.size)).trans (h.z b e hb)⟩
theorem BZ.step {w1 w2 : World} {X : Nat → Prop} (h : BZ base Z w w1) (t : Tch X w1 w2) (hX : ∀ b, X b → base ≤ b ∧ ¬ Z b) (hlo : base ≤ w.heap.size) : BZ base Z w w2 :=
  ⟨h.bel.trans (t.below (fun b e => (hX b e).1) (Nat.le_trans hlo h.bel.size)), fun b e hb => (t.block b (Nat.lt_of_lt_of_le hb h.bel.size) (fun c => (hX b c).2 e)).trans (h.z b e hb)⟩
theorem PairS.two (h : PairS Z base w ps pr L L) : TwoS base w ps pr L := by
  obtain ⟨N, M, h1, h2, h3, h4⟩ := h
  exact ⟨N, M, h1, h2, h3⟩
theorem PairS.good (h : PairS Z base w ps pr L1 L2) : Good L1 := by
  obtain ⟨N, M, h1, _⟩ := h
  exact h1.good
theorem PairS.prog (h : PairS Z base w ps pr L1 L2) {P : Ending → World → Prop} {fn : FuncId} {args : Array Value}
    (hc : ∀ N, StoO N base w ps L1 → (∀ b, Z b → N b) → Calls Tryz.prog fn args w fun e w' => P e w' ∧ StoO N base w' ps L1' ∧ Tch (OffT base N) w w') :
    Calls Tryz.prog fn args w fun e w' => P e w' ∧ PairS Z base w' ps pr L1' L2 ∧ Tch (OffZ base Z) w w' := by
  obtain ⟨N, M, h1, h2, h3, h4⟩ := h
  exact (hc N h1 (fun b e => (h4 b e).1)).mono fun e w' ⟨he, hS, ht⟩ => ⟨he, ⟨N, M, hS, h2.kept ht (fun b e c => c.2 (h3 b e)), h3, h4⟩, ht.mono (fun b e => ⟨e.1, fun c => e.2 (h4 b c).1⟩)⟩
theorem PairS.ref (h : PairS Z base w ps pr L1 L2) (hpr : base ≤ pr) {P : Ending → World → Prop} {fn : FuncId} {args : Array Value}
    (hc : ∀ M, RefS w M pr L2 → Calls Tryz.prog fn args w fun e w' => P e w' ∧ RefS w' (New M w w') pr L2' ∧ Tch (fun b => b = pr) w w') :
    Calls Tryz.prog fn args w fun e w' => P e w' ∧ PairS Z base w' ps pr L1 L2' ∧ Tch (OffZ base Z) w w' := by
  obtain ⟨N, M, h1, h2, h3, h4⟩ := h
  obtain ⟨_, _, _, _, _, _, _, hMp, _⟩ := h2.open
  refine (hc M h2).mono fun e w' ⟨he, hR, ht⟩ => ⟨he, ⟨_, _, h1.keepN ht (fun b e => e ▸ h3 pr hMp), hR, fun b e => ?_, fun b e => ⟨.inl (h4 b e).1, fun c => ?_⟩⟩, ht.mono (fun b e => ⟨by omega, fun c => (h4 b c).2 (e ▸ hMp)⟩)⟩
  · rcases e with e | e
    · exact .inl (h3 b e)
    · exact .inr e
  · rcases c with c | c
    · exact (h4 b e).2 c
    · obtain ⟨_, _, _, k3, _⟩ := h1
      have := k3 b (h4 b e).1
      omega
theorem OffZ.below (t : Tch (OffZ base Z) w w') (hb : base ≤ w.heap.size) : RowKit.Below base w w' := t.below (fun b e => e.1) hb
/-- A clone of the program's store, and the old one's entity taken out. -/
theorem takeS2 {N : Nat → Prop} (h : StoO N base w ps L) (x1 x2 : Int) (hx : HdOk (x1, x2)) (hA : Era base w A) :
    Calls Tryz.prog 11 #[psP ps, .agg #[.int .i64 x1, .int .i64 x2]] w fun e w' => (∃ v, e = .returned (.tuple #[.agg #[.int .i64 (entE L (x1, x2)).1.1, .int .i64 (entE L (x1, x2)).1.2, v], errV A (takeEN L (x1, x2))]) ∧ SlN (fun b => w.heap.size ≤ b) encV w' v (entE L (x1, x2)).2) ∧ StoO N base w' ps (delE L (x1, x2)) ∧ Tch (OffT base N) w w' :=
  h.ask (P := fun e w' => ∃ v, e = .returned (.tuple #[.agg #[.int .i64 (entE L (x1, x2)).1.1, .int .i64 (entE L (x1, x2)).1.2, v], errV A (takeEN L (x1, x2))]) ∧ SlN (fun b => w.heap.size ≤ b) encV w' v (entE L (x1, x2)).2) fun M ⟨bt, bp, tt, pl, MT, hS⟩ hM => (stake_call hS x1 x2 hx (hA.env hM)).mono fun e w' ⟨⟨v, h1, h2⟩, h3⟩ => ⟨⟨v, h1, SlN.of lenV h2 rfl⟩, h3⟩
theorem PairS.clone (h : PairS Z base w ps pr L L) : Calls Tryz.prog 10 #[psP ps] w fun e w' => ∃ pn, e = .returned (psP pn) ∧ RowKit.Below w.heap.size w w' ∧ ∀ x1 x2, HdOk (x1, x2) → Era base w' A → Calls Tryz.prog 11 #[psP ps, .agg #[.int .i64 x1, .int .i64 x2]] w' fun e w2 => (∃ v, e = .returned (.tuple #[.agg #[.int .i64 (entE L (x1, x2)).1.1, .int .i64 (entE L (x1, x2)).1.2, v], errV A (takeEN L (x1, x2))])) ∧ PairS Z base w2 pn pr L L ∧ Tch (OffZ base Z) w' w2 := by
  obtain ⟨N, M, h1, h2, h3, h4⟩ := h
  refine h1.read fun M0 bt bp tt pl MT hS => (sclone_call hS).mono fun e w' ⟨pn, he, hm, hb⟩ => ⟨pn, he, hb, fun x1 x2 hx hA => ?_⟩
  have hN := h1.off hb
  have hR := h2.below hb
  refine (takeS2 hN x1 x2 hx hA).mono fun e w2 ⟨⟨v, hv, _⟩, _, ht⟩ => ⟨⟨v, hv⟩, ⟨fun b => b < w.heap.size, M, ⟨_, hm.kept ht (fun b e c => e.elim (fun e => e.elim) (fun e => c.2 (.inr e))), fun b e => e.elim (fun e => e.elim) (fun e => ⟨Nat.le_trans h1.lo e.1, fun c => by have := e.1; omega⟩), fun b e => by have := hb.size; have := ht.size; omega, by have := h1.lo; have := hb.size; have := ht.size; omega⟩, hR.kept ht (fun b e c => c.2 (.inl (h3 b e))), fun b e => h2.lt b e, fun b e => ⟨?_, (h4 b e).2⟩⟩, ht.mono (fun b e => ⟨e.1, fun c => e.2 (.inl (h4 b c).1)⟩)⟩
  obtain ⟨_, _, _, k3, _⟩ := h1
  exact k3 b (h4 b e).1
end
end Go.Proofs.YtaehendpdfpibaaGreatDoor
