/-
  ColumnPlays, walked.
-/
import Derived.Test.YtfoagdnbegpjeaaDoorPlk
import Derived.BigRegion
import Derived.Deep.CutBlock
import Derived.Deep.DeepCutAuto
namespace Go.Proofs.YtfoagdnbegpjeaaDoor
set_option linter.unusedSimpArgs false
set_option linter.unusedVariables false
open Go.RowKit Go.Sort Go.Lib Go.Shelf

section
variable {pa : Nat} {L : List Int} {m : Int} {M : Nat → Prop} {w : World}
theorem take_zero (hp : ColI w M pa L m) (A : Nat → Addr) (hE : Errs w A) : Calls Tryd.prog 18 #[.pointer (some ⟨pa, 0, none⟩), .int .i64 0] w fun e w' => (∃ u, e = .returned (.tuple u)) ∧ Tch M w w' := by
  by_cases h : 0 < L.length
  · exact (takeI_at hp 0 (by omega) (by omega)).mono fun e w' ⟨a, _, c⟩ => ⟨⟨_, a⟩, c⟩
  · exact (takeI_no hp 0 (by omega) _ _ (errRange_at hE)).mono fun e w' ⟨a, b⟩ => ⟨⟨_, a⟩, Tch.of b⟩
end

set_option maxHeartbeats 16000000 in
set_option maxRecDepth 100000 in
theorem plays_walk (m0 : Int) (hm0 : m0 ≤ 9223372036854775807) (l : List Opc) (v : Value) (w : World) (hv : Sl encO w v l) (hp : ∀ x ∈ l, Sl encI w x.2.2.2.1 x.2.2.2.2) (A : Nat → Addr) (hE : Errs w A) :
    Calls Tryd.prog 3 #[.int .i64 m0, v] w fun e w' => e = .returned (.bool true) ∧ RowKit.Below w.heap.size w w' := by
  obtain ⟨p0, c0, rfl, a1, a2, a3⟩ := hv
  unfold maxLen at a2
  have HV := Lib.hid a3
  have HP := Lib.hid hp
  have HE := Lib.hid hE
  clear a3 hp hE
  have mixed : Tryd.prog.follows .mixedOrders = true := by kernel_rfl
  have MX := Lib.hid mixed
  clear mixed
  by_cases hbig : l.length ≤ 100
  · have n1 : ¬ (100 : Int) < (l.length : Int) := by omega
    obtain ⟨m, hm⟩ : ∃ m, m = max m0 0 := ⟨_, rfl⟩
    have hmlo : 0 ≤ m := by omega
    have hmhi : m ≤ 9223372036854775807 := by omega
    have HMM := Lib.hid hm
    clear hm
    go_enter Tryd.func3, Tryd.ntmps3
    go_wp2_with fail
    refine (alive_any w).mono ?_
    rintro e w1 ⟨rfl, hb1⟩
    have B1 := Lib.hid hb1
    have C1 := Lib.hid (newI_call m0 w1)
    rw [← HMM.out] at C1
    clear hb1
    go_wp2_with fail
    refine C1.out.mono ?_
    rintro e w2 ⟨pa, rfl, hp2, hb2⟩
    have B2 := Lib.hid (B1.out.trans (hb2.mono B1.out.size))
    have P2 := Lib.hid hp2
    have B12 := Lib.hid hb2
    clear hp2 hb2
    have R3 := Lib.hid (col_made (enc := encI) (et := 3) (k := 1) (w := w2) (L := []) (v := .slice none 0 0) (Below.refl _ w2) (World.ownsRow_nil _ _ _ _) 29 m)
    have D3 := Lib.hid (Ba (Below.refl _ w2) (.cells #[.slice none 0 0, .int .i64 m] 29))
    have T3 := Lib.hid (show Tw w NoX (w2.alloc (.cells #[.slice none 0 0, .int .i64 m] 29)) pa [] w2.heap.size [] m from TwoC.of (w0 := w1) P2.out R3.out.at D3.out B1.out.size B12.out.size)
    have B3 := Lib.hid (Ba B2.out (.cells #[.slice none 0 0, .int .i64 m] 29))
    have HMC := Lib.hid (mostI_call (T3.out.below (Bd (Below.refl _ _))).first.choose_spec)
    obtain ⟨kr0, kr1, _, _⟩ := R3.out.cells
    have hpb := R3.out.lt
    go_wp2_with fail
    rw [← HMM.out]
    go_region_held3 (fun W => W.cell? ⟨w2.heap.size, 1, none⟩ = some (.int .i64 m)) (first | exact kr1 | assumption) ((go_at_call 9; refine HMC.out.mono ?_; rintro e w1 ⟨rfl, rfl⟩))
    all_goals
      have T4 := Lib.hid (T3.out.below (Bd (Below.refl _ _)))
      have B4 := Lib.hid (Bd B3.out)
      clear kr0 kr1 HMC C1 P2 B12 R3 D3 T3 B3
      generalize w2.heap.size = pb at *
      go_wp2_with fail
      go_loopw [5, 44] (fun p i wr => ∃ (k pa : Nat) (L : List Int), k ≤ l.length ∧ p = .pointer (some ⟨pa, 0, none⟩) ∧ i = .int .i64 k ∧ Tw w NoX wr pa L pb L m ∧ L.length ≤ 100 * k ∧ RowKit.Below w.heap.size w wr) (fun _ i _ => l.length - (intOf i).toNat)
      case atStart => exact ⟨0, pa, [], Nat.zero_le _, rfl, rfl, T4.out, Nat.zero_le _, B4.out⟩
      case round =>
        clear T4 B4
        obtain ⟨k, pa, L, hk, rfl, rfl, htw, hlen, hb⟩ := hrel
        have HTW := Lib.hid htw
        have HB := Lib.hid hb
        clear htw hb
        by_cases hkn : k < l.length
        · obtain ⟨g, o, rfl, hg, cO⟩ := HV.out (by omega)
          obtain ⟨d1, d2, d3, d4⟩ := atO cO hkn
          have hsl := HP.out l[k]! (by rw [getElem!_pos l k hkn]; exact List.getElem_mem _)
          replace d1 := Bc HB.out hg d1
          replace d2 := Bc HB.out hg d2
          replace d3 := Bc HB.out hg d3
          replace d4 := Bc HB.out hg d4
          clear cO
          generalize l[k]! = op at d1 d2 d3 d4 hsl
          obtain ⟨kd, ix, xx, vl, ll⟩ := op
          dsimp only at d1 d2 d3 d4 hsl
          have HSL := Lib.hid hsl
          obtain ⟨p3, c3, rfl, q1, q2, _⟩ := hsl
          unfold maxLen at q2
          obtain ⟨wq, rfl⟩ : ∃ wq : World, wq = wr := ⟨_, rfl⟩
          by_cases hll : ll.length ≤ 100
          · have n2 : ¬ (100 : Int) < (ll.length : Int) := by omega
            have D1 := Lib.hid (Ba (Below.refl _ wq) (.cells #[.int .i64 kd, .int .i64 ix, .int .i64 xx, .slice p3 ll.length c3] 32))
            have BO := Lib.hid (HB.out.trans (D1.out.mono HB.out.size))
            have A1 := Lib.hid (heap_alloc_new wq (.cells #[.int .i64 kd, .int .i64 ix, .int .i64 xx, .slice p3 ll.length c3] 32))
            go_upto_block 2 with fail
            go_cut [5, 9] (fun p ok wx => ∃ (pa' : Nat) (L' : List Int), p = .pointer (some ⟨pa', 0, none⟩) ∧ ok = .bool true ∧ Tw w NoX wx pa' L' pb L' m ∧ L'.length ≤ 100 * (k + 1) ∧ RowKit.Below w.heap.size w wx)
            case first =>
              by_cases h1 : kd = 1
              · subst h1
                as_aux_lemma =>
                  have NI := Lib.hid (numInts_call ll _ (wq.alloc (.cells #[.int .i64 1, .int .i64 ix, .int .i64 xx, .slice p3 ll.length c3] 32)) (HSL.out.below BO.out) (by omega))
                  go_wp2_with fail
                  refine NI.out.mono ?_
                  rintro e wi ⟨gi, ci, rfl, hrow, hbi⟩
                  have BI := Lib.hid (BO.out.trans (hbi.mono BO.out.size))
                  have DI := Lib.hid (D1.out.trans (hbi.mono D1.out.size))
                  obtain ⟨XX, hXX⟩ : ∃ XX : Nat → Prop, XX = fun b => wq.heap.size ≤ b ∧ b < wi.heap.size := ⟨_, rfl⟩
                  have HXG := Lib.hid (show XX gi by rw [hXX]; exact ⟨Nat.le_trans D1.out.size (hrow.lt gi rfl).1, (hrow.lt gi rfl).2⟩)
                  have HXO := Lib.hid (show XX wq.heap.size by rw [hXX]; exact ⟨Nat.le_refl _, Nat.lt_of_lt_of_le (show wq.heap.size < (wq.alloc (.cells #[.int .i64 1, .int .i64 ix, .int .i64 xx, .slice p3 ll.length c3] 32)).heap.size by simp) hbi.size⟩)
                  have TI := Lib.hid (show TrP w XX wi pa L pb L m gi ci ll from ⟨by rw [hXX]; exact HTW.out.off DI.out, row_mono hrow BO.out.size, HXG.out, BI.out⟩)
                  have tD := TI.out.below (Bd (Below.refl _ wi))
                  have K0 := Lib.hid (OpS.mk (blk_below (blk_below A1.out hbi) (Bd (Below.refl _ wi))) (Bd BI.out))
                  have HKP := Lib.hid (fun W L1 L2 (h : TrP w XX W pa L1 pb L2 m gi ci ll) => TrP.kept (by omega) HSL.out h)
                  obtain ⟨z0, z1, z2, z3, _⟩ := (OpS.mk (blk_below A1.out hbi) BI.out : OpS w wq.heap.size 1 ix xx _ wi)
                  clear hXX hrow hbi NI TI HTW D1 DI
                  go_upto_region 18 with fail
                  go_cut [9] (fun ok wx => ∃ L9 : List Int, ok = .bool true ∧ TrP w XX wx pa L9 pb L9 m gi ci ll ∧ L9.length ≤ 100 * (k + 1))
                  case rest =>
                    obtain ⟨L9, rfl, tD, hl9⟩ := hcut
                    have TF := Lib.hid tD
                    have HLN := Lib.hid hl9
                    clear tD hl9 HKP K0 z0 z1 z2 z3
                    obtain ⟨wz, rfl⟩ : ∃ wz : World, wz = wc := ⟨_, rfl⟩
                    go_wp2_with fail
                    go_loopw [76] (fun i wr => ∃ (j : Nat) (l' : List Int), j ≤ ll.length ∧ i = .int .i64 j ∧ l'.length = ll.length ∧ Tw w XX wr pa L9 pb L9 m ∧ wr.ownsRow w.heap.size 3 1 (.slice (some ⟨gi, 0, none⟩) ll.length ci) ll.length (flat encI l') ∧ RowKit.Below w.heap.size w wr) (fun i _ => ll.length - (intOf i).toNat)
                    case atStart => exact ⟨0, ll, Nat.zero_le _, rfl, rfl, TF.out.1, TF.out.front, TF.out.2.2.2⟩
                    case round =>
                      obtain ⟨j, l', hj, rfl, hl', htw, hrw, hbw⟩ := hrel
                      have HTW2 := Lib.hid htw
                      have HRW := Lib.hid hrw
                      have HBW := Lib.hid hbw
                      clear htw hrw hbw
                      by_cases hjn : j < ll.length
                      · have d1 := row_cell1 cI HRW.out j (by omega)
                        have fz := HRW.out.frozenAt j
                        have hgi := cell_lt d1
                        have hst := (HRW.out.stored j (.int .i64 (-5))).1
                        rw [flat1_set cI l' j (-5)] at hst
                        have HST := Lib.hid hst
                        have ht : Tch XX wr (wr.setCell ⟨gi, j, none⟩ (.int .i64 (-5))) := Tch.set wr HXG.out _
                        have HTK := Lib.hid (HTW2.out.kept ht)
                        have HBK := Lib.hid (Bs HBW.out (p := ⟨gi, j, none⟩) (HRW.out.lt gi rfl).1 (.int .i64 (-5)))
                        have hci : j < ci := by
                          obtain ⟨_, _, e, h1, _, _⟩ := row_val HRW.out
                          simp only [Value.slice.injEq] at e
                          omega
                        clear hst ht
                        generalize l'[j]! = y at d1
                        go_wp2
                        go_roundw
                        case measure => simp [intOf]; omega
                        case rel => exact ⟨j + 1, l'.set j (-5), by omega, by go_num, by rw [List.length_set]; exact hl', HTK.out, HST.out, HBK.out⟩
                      · have TQ := Lib.hid HTW2.out.on
                        have BQ := Lib.hid HBW.out
                        clear HTW2 HRW HBW
                        go_wp2
                        go_meet
                        exact ⟨pa, L9, rfl, rfl, TQ.out, HLN.out, BQ.out⟩
                  case first =>
                   by_cases hfit : m - L.length < ll.length
                   · have HP1 := Lib.hid (fun W L2 (h : TrP w XX W pa L pb L2 m gi ci ll) => TrP.push_no hmlo hmhi hfit A HE.out h)
                     have HP2 := Lib.hid (fun W L1 (h : TrP w XX W pa L1 pb L m gi ci ll) => TrP.rpush_no hmlo hmhi hfit HSL.out h)
                     have HNM := Lib.hid (fun W L1 L2 (h : TrP w XX W pa L1 pb L2 m gi ci ll) => num_full (HE.out.below h.2.2.2))
                     have HLN := Lib.hid (show L.length ≤ 100 * (k + 1) by omega)
                     obtain ⟨L9, h9⟩ : ∃ L9, L9 = L := ⟨_, rfl⟩
                     subst h9
                     clear hfit
                     go_region_held3 (fun W => W.cell? ⟨wq.heap.size, 0, none⟩ = some (.int .i64 1) ∧ W.cell? ⟨wq.heap.size, 1, none⟩ = some (.int .i64 ix) ∧ W.cell? ⟨wq.heap.size, 2, none⟩ = some (.int .i64 xx) ∧ W.cell? ⟨wq.heap.size, 3, none⟩ = some (.slice p3 ll.length c3) ∧ OpR w wq.heap.size 1 ix xx (.slice p3 ll.length c3) W) (first | exact K0.out | exact OpS.off (by assumption) bD HXO.out | exact OpS.below (by assumption) hbL) ((first | (go_at_call 12; refine (HP1.out _ _ (by assumption)).mono ?_; rintro e w1 ⟨rfl, tD, bD⟩) | (go_at_call 13; refine (HP2.out _ _ (by assumption)).mono ?_; rintro e w1 ⟨rfl, tD, bD⟩) | (go_at_call 11; refine (HNM.out _ _ _ (by assumption)).mono ?_; rintro e w1 ⟨rfl, hbL⟩; have tD := TrP.below (by assumption) hbL) | (go_at_call 14; refine (HKP.out _ _ _ (by assumption)).mono ?_; rintro e w1 ⟨rfl, tD, hbL⟩)))
                     all_goals
                       go_wp2
                       go_meet
                       exact ⟨L9, rfl, tD, HLN.out⟩
                   · have HP1 := Lib.hid (fun W L2 (h : TrP w XX W pa L pb L2 m gi ci ll) => TrP.push hmlo hmhi hfit (by omega) h)
                     have HP2 := Lib.hid (fun W L1 (h : TrP w XX W pa L1 pb L m gi ci ll) => TrP.rpush hmlo hmhi hfit (by omega) HSL.out h)
                     have HNM := Lib.hid (fun W L1 L2 (h : TrP w XX W pa L1 pb L2 m gi ci ll) => num_nil W)
                     have HLN := Lib.hid (show (L ++ ll).length ≤ 100 * (k + 1) by simp; omega)
                     obtain ⟨L9, h9⟩ : ∃ L9, L9 = L ++ ll := ⟨_, rfl⟩
                     rw [← h9] at HP1 HP2 HLN
                     clear hfit h9
                     go_region_held3 (fun W => W.cell? ⟨wq.heap.size, 0, none⟩ = some (.int .i64 1) ∧ W.cell? ⟨wq.heap.size, 1, none⟩ = some (.int .i64 ix) ∧ W.cell? ⟨wq.heap.size, 2, none⟩ = some (.int .i64 xx) ∧ W.cell? ⟨wq.heap.size, 3, none⟩ = some (.slice p3 ll.length c3) ∧ OpR w wq.heap.size 1 ix xx (.slice p3 ll.length c3) W) (first | exact K0.out | exact OpS.off (by assumption) bD HXO.out | exact OpS.below (by assumption) hbL) ((first | (go_at_call 12; refine (HP1.out _ _ (by assumption)).mono ?_; rintro e w1 ⟨rfl, tD, bD⟩) | (go_at_call 13; refine (HP2.out _ _ (by assumption)).mono ?_; rintro e w1 ⟨rfl, tD, bD⟩) | (go_at_call 11; refine (HNM.out _ _ _ (by assumption)).mono ?_; rintro e w1 ⟨rfl, hbL⟩; have tD := TrP.below (by assumption) hbL) | (go_at_call 14; refine (HKP.out _ _ _ (by assumption)).mono ?_; rintro e w1 ⟨rfl, tD, hbL⟩)))
                     all_goals
                       go_wp2
                       go_meet
                       exact ⟨L9, rfl, tD, HLN.out⟩
              · have k1 : (kd == 1) = false := by simpa using h1
                by_cases h2 : kd = 2
                · subst h2
                  clear h1 k1
                  as_aux_lemma =>
                    obtain ⟨XX, hXX⟩ : ∃ XX : Nat → Prop, XX = fun b => wq.heap.size ≤ b ∧ b < (wq.alloc (.cells #[.int .i64 2, .int .i64 ix, .int .i64 xx, .slice p3 ll.length c3] 32)).heap.size := ⟨_, rfl⟩
                    have HXO := Lib.hid (show XX wq.heap.size by rw [hXX]; exact ⟨Nat.le_refl _, by simp⟩)
                    have TO := Lib.hid (show Tw w XX (wq.alloc (.cells #[.int .i64 2, .int .i64 ix, .int .i64 xx, .slice p3 ll.length c3] 32)) pa L pb L m by rw [hXX]; exact HTW.out.off D1.out)
                    have K0 := Lib.hid (OpS.mk A1.out BO.out)
                    have hszo : w.heap.size ≤ (wq.alloc (.cells #[.int .i64 2, .int .i64 ix, .int .i64 xx, .slice p3 ll.length c3] 32)).heap.size := BO.out.size
                    have HSZO := Lib.hid hszo
                    clear hXX hszo
                    by_cases hin : 0 ≤ ix ∧ ix < L.length
                    · obtain ⟨hi0, hi1⟩ := hin
                      obtain ⟨n, rfl⟩ : ∃ n : Nat, ix = n := ⟨ix.toNat, by omega⟩
                      have hn : n < L.length := by omega
                      have GC := Lib.hid (getI_yes TO.out.first.choose_spec n hn)
                      go_wp2_with fail
                      refine GC.out.mono ?_
                      rintro e w3 ⟨rfl, hb3⟩
                      have K3 := Lib.hid (OpS.below K0.out hb3)
                      have T3 := Lib.hid (TO.out.below hb3)
                      have B3 := Lib.hid (BO.out.trans (hb3.mono BO.out.size))
                      obtain ⟨o0, o1, o2, o3, _⟩ := K3.out
                      obtain ⟨M2, hM2⟩ := T3.out.second
                      have HM2 := Lib.hid hM2
                      have hs1 := cell_lt o1
                      have HAS2 := Lib.hid (fun W (h : RowKit.Below w3.heap.size w3 W) => (rhas_call (HM2.out.below h) n).mono (fun e w' (q : _ ∧ _) => (show e = .returned (.bool true) ∧ RowKit.Below W.heap.size W w' from ⟨by rw [q.1, decide_eq_true ⟨by omega, hi1⟩], q.2 ▸ Below.refl _ _⟩)))
                      obtain ⟨q2, j2, hi2, r1, r2, r3⟩ := hM2.open
                      obtain ⟨g2, rfl, hg2⟩ := r3 (by omega)
                      obtain ⟨s0, _, _, _⟩ := hi2.cells
                      have s1 := row_cell1 cI hi2.2.2.1 n hn
                      have hs0 := cell_lt s0
                      have hmn : min (n : Int) ((L.length : Int) - 1) = (n : Int) := by omega
                      have hmx : max (n : Int) 0 = (n : Int) := by omega
                      have hwr : IntKind.i64.wrap ((L.length : Int) - 1) = (L.length : Int) - 1 := IntWalk.i64_in _ (by omega)
                      clear hb3 hM2 hi2 r3
                      generalize L[n]! = y at s1 ⊢
                      go_wp2_with fail
                      refine wp_region_held_drew (S := (fun w' => Below (w3).heap.size (w3) w' ∧ ∀ b_1 o, b_1 < (w3).heap.size → w'.cell? ⟨b_1, o, none⟩ = (w3).cell? ⟨b_1, o, none⟩)) (by kernel_rfl) (keep0 _) (fun hHeld => ?_)
                      (refine wpAnyH_take (i := 0) (v := ?_) rfl (by kernel_rfl) (by kernel_rfl) (by kernel_rfl) (fun _ _ _ h => h) (Or.inl ⟨by rfl, ?rt⟩) (by assumption) ?_; case rt => (intro w hSw; (try dsimp only at hSw); go_simp; (try with_reducible rfl))); (try simp only [Act.put, List.getElem_toArray, List.getElem_cons_succ, List.getElem_cons_zero, List.setIfInBounds_toArray, List.set_cons_zero, List.set_cons_succ])
                      (refine wpAnyH_take (i := 1) (v := ?_) rfl (by kernel_rfl) (by kernel_rfl) (by kernel_rfl) (fun _ _ _ h => h) (Or.inl ⟨by rfl, ?rt⟩) (by assumption) ?_; case rt => (intro w hSw; (try dsimp only at hSw); go_simp; (try with_reducible rfl))); (try simp only [Act.put, List.getElem_toArray, List.getElem_cons_succ, List.getElem_cons_zero, List.setIfInBounds_toArray, List.set_cons_zero, List.set_cons_succ])
                      (refine wpAnyH_take (i := 2) (v := ?_) rfl (by kernel_rfl) (by kernel_rfl) (by kernel_rfl) (fun _ _ _ h => h) (Or.inl ⟨by rfl, ?rt⟩) (by assumption) ?_; case rt => (intro w hSw; (try dsimp only at hSw); go_simp; (try with_reducible rfl))); (try simp only [Act.put, List.getElem_toArray, List.getElem_cons_succ, List.getElem_cons_zero, List.setIfInBounds_toArray, List.set_cons_zero, List.set_cons_succ])
                      (refine wpAnyH_ready (rs := [3]) (by kernel_rfl) (by simp) ?_; refine AllReadyH.cons rfl (fun K hK => ?_) AllReadyH.nil; go_simp; refine (HAS2.out _ hHeld.1).mono ?_; rintro e w1 ⟨rfl, hb1⟩; refine hK.out _ _ (keepB (by assumption) hb1) (fun hHeld => ?_); clear hK K); (try simp only [Act.put, List.getElem_toArray, List.getElem_cons_succ, List.getElem_cons_zero, List.setIfInBounds_toArray, List.set_cons_zero, List.set_cons_succ])
                      (refine wpAnyH_take (i := 4) (v := ?_) rfl (by kernel_rfl) (by kernel_rfl) (by kernel_rfl) (fun _ _ _ h => h) (Or.inl ⟨by rfl, ?rt⟩) (by assumption) ?_; case rt => (intro w hSw; (try dsimp only at hSw); go_simp; (try with_reducible rfl))); (try simp only [Act.put, List.getElem_toArray, List.getElem_cons_succ, List.getElem_cons_zero, List.setIfInBounds_toArray, List.set_cons_zero, List.set_cons_succ])
                      (refine wpAnyH_take (i := 5) (v := ?_) rfl (by kernel_rfl) (by kernel_rfl) (by kernel_rfl) (fun _ _ _ h => h) (Or.inl ⟨by rfl, ?rt⟩) (by assumption) ?_; case rt => (intro w hSw; (try dsimp only at hSw); go_simp; (try with_reducible rfl))); (try simp only [Act.put, List.getElem_toArray, List.getElem_cons_succ, List.getElem_cons_zero, List.setIfInBounds_toArray, List.set_cons_zero, List.set_cons_succ])
                      (refine wpAnyH_take (i := 6) (v := ?_) rfl (by kernel_rfl) (by kernel_rfl) (by kernel_rfl) (fun _ _ _ h => h) (Or.inl ⟨by rfl, ?rt⟩) (by assumption) ?_; case rt => (intro w hSw; (try dsimp only at hSw); go_simp; (try with_reducible rfl))); (try simp only [Act.put, List.getElem_toArray, List.getElem_cons_succ, List.getElem_cons_zero, List.setIfInBounds_toArray, List.set_cons_zero, List.set_cons_succ])
                      (refine wpAnyH_take (i := 7) (v := ?_) rfl (by kernel_rfl) (by kernel_rfl) (by kernel_rfl) (fun _ _ _ h => h) (Or.inl ⟨by rfl, ?rt⟩) (by assumption) ?_; case rt => (intro w hSw; (try dsimp only at hSw); go_simp; (try with_reducible rfl))); (try simp only [Act.put, List.getElem_toArray, List.getElem_cons_succ, List.getElem_cons_zero, List.setIfInBounds_toArray, List.set_cons_zero, List.set_cons_succ])
                      (refine wpAnyH_take (i := 8) (v := ?_) rfl (by kernel_rfl) (by kernel_rfl) (by kernel_rfl) (fun _ _ _ h => h) (Or.inl ⟨by rfl, ?rt⟩) (by assumption) ?_; case rt => (intro w hSw; (try dsimp only at hSw); go_simp; (try with_reducible rfl))); (try simp only [Act.put, List.getElem_toArray, List.getElem_cons_succ, List.getElem_cons_zero, List.setIfInBounds_toArray, List.set_cons_zero, List.set_cons_succ])
                      (refine wpAnyH_take (i := 9) (v := ?_) rfl (by kernel_rfl) (by kernel_rfl) (by kernel_rfl) (fun _ _ _ h => h) (Or.inl ⟨by rfl, ?rt⟩) (by assumption) ?_; case rt => (intro w hSw; (try dsimp only at hSw); go_simp; (try with_reducible rfl))); (try simp only [Act.put, List.getElem_toArray, List.getElem_cons_succ, List.getElem_cons_zero, List.setIfInBounds_toArray, List.set_cons_zero, List.set_cons_succ])
                      (refine wpAnyH_take (i := 10) (v := ?_) rfl (by kernel_rfl) (by kernel_rfl) (by kernel_rfl) (fun _ _ _ h => h) (Or.inl ⟨by rfl, ?rt⟩) (by assumption) ?_; case rt => (intro w hSw; (try dsimp only at hSw); go_simp; (try with_reducible rfl))); (try simp only [Act.put, List.getElem_toArray, List.getElem_cons_succ, List.getElem_cons_zero, List.setIfInBounds_toArray, List.set_cons_zero, List.set_cons_succ])
                      (refine wpAnyH_take (i := 11) (v := ?_) rfl (by kernel_rfl) (by kernel_rfl) (by kernel_rfl) (fun _ _ _ h => h) (Or.inl ⟨by rfl, ?rt⟩) (by assumption) ?_; case rt => (intro w hSw; (try dsimp only at hSw); go_simp; (try with_reducible rfl))); (try simp only [Act.put, List.getElem_toArray, List.getElem_cons_succ, List.getElem_cons_zero, List.setIfInBounds_toArray, List.set_cons_zero, List.set_cons_succ])
                      (refine wpAnyH_take (i := 12) (v := ?_) rfl (by kernel_rfl) (by kernel_rfl) (by kernel_rfl) (fun _ _ _ h => h) (Or.inl ⟨by rfl, ?rt⟩) (by assumption) ?_; case rt => (intro w hSw; (try dsimp only at hSw); go_simp; (try with_reducible rfl))); (try simp only [Act.put, List.getElem_toArray, List.getElem_cons_succ, List.getElem_cons_zero, List.setIfInBounds_toArray, List.set_cons_zero, List.set_cons_succ])
                      (refine wpAnyH_take (i := 13) (v := ?_) rfl (by kernel_rfl) (by kernel_rfl) (by kernel_rfl) (fun _ _ _ h => h) (Or.inl ⟨by rfl, ?rt⟩) (by assumption) ?_; case rt => (intro w hSw; (try dsimp only at hSw); go_simp; (try with_reducible rfl))); (try simp only [Act.put, List.getElem_toArray, List.getElem_cons_succ, List.getElem_cons_zero, List.setIfInBounds_toArray, List.set_cons_zero, List.set_cons_succ])
                      (refine wpAnyH_take (i := 14) (v := ?_) rfl (by kernel_rfl) (by kernel_rfl) (by kernel_rfl) (fun _ _ _ h => h) (Or.inl ⟨by rfl, ?rt⟩) (by assumption) ?_; case rt => (intro w hSw; (try dsimp only at hSw); go_simp; (try with_reducible rfl))); (try simp only [Act.put, List.getElem_toArray, List.getElem_cons_succ, List.getElem_cons_zero, List.setIfInBounds_toArray, List.set_cons_zero, List.set_cons_succ])
                      (refine wpAnyH_take (i := 15) (v := ?_) rfl (by kernel_rfl) (by kernel_rfl) (by kernel_rfl) (fun _ _ _ h => h) (Or.inl ⟨by rfl, ?rt⟩) (by assumption) ?_; case rt => (intro w hSw; (try dsimp only at hSw); go_simp; (try with_reducible rfl))); (try simp only [Act.put, List.getElem_toArray, List.getElem_cons_succ, List.getElem_cons_zero, List.setIfInBounds_toArray, List.set_cons_zero, List.set_cons_succ])
                      (refine wpAnyH_take (i := 16) (v := ?_) rfl (by kernel_rfl) (by kernel_rfl) (by kernel_rfl) (fun _ _ _ h => h) (Or.inl ⟨by rfl, ?rt⟩) (by assumption) ?_; case rt => (intro w hSw; (try dsimp only at hSw); go_simp; (try with_reducible rfl))); (try simp only [Act.put, List.getElem_toArray, List.getElem_cons_succ, List.getElem_cons_zero, List.setIfInBounds_toArray, List.set_cons_zero, List.set_cons_succ])
                      (refine wpAnyH_take (i := 17) (v := ?_) rfl (by kernel_rfl) (by kernel_rfl) (by kernel_rfl) (fun _ _ _ h => h) (Or.inl ⟨by rfl, ?rt⟩) (by assumption) ?_; case rt => (intro w hSw; (try dsimp only at hSw); go_simp; (try with_reducible rfl))); (try simp only [Act.put, List.getElem_toArray, List.getElem_cons_succ, List.getElem_cons_zero, List.setIfInBounds_toArray, List.set_cons_zero, List.set_cons_succ])
                      (refine wpAnyH_take (i := 18) (v := ?_) rfl (by kernel_rfl) (by kernel_rfl) (by kernel_rfl) (fun _ _ _ h => h) (Or.inl ⟨by rfl, ?rt⟩) (by assumption) ?_; case rt => (intro w hSw; (try dsimp only at hSw); go_simp; (try with_reducible rfl))); (try simp only [Act.put, List.getElem_toArray, List.getElem_cons_succ, List.getElem_cons_zero, List.setIfInBounds_toArray, List.set_cons_zero, List.set_cons_succ])
                      (refine wpAnyH_take (i := 19) (v := ?_) rfl (by kernel_rfl) (by kernel_rfl) (by kernel_rfl) (fun _ _ _ h => h) (Or.inl ⟨by rfl, ?rt⟩) (by assumption) ?_; case rt => (intro w hSw; (try dsimp only at hSw); go_simp; (try with_reducible rfl))); (try simp only [Act.put, List.getElem_toArray, List.getElem_cons_succ, List.getElem_cons_zero, List.setIfInBounds_toArray, List.set_cons_zero, List.set_cons_succ])
                      (refine wpAnyH_take (i := 20) (v := ?_) rfl (by kernel_rfl) (by kernel_rfl) (by kernel_rfl) (fun _ _ _ h => h) (Or.inl ⟨by rfl, ?rt⟩) (by assumption) ?_; case rt => (intro w hSw; (try dsimp only at hSw); go_simp; (try with_reducible rfl))); (try simp only [Act.put, List.getElem_toArray, List.getElem_cons_succ, List.getElem_cons_zero, List.setIfInBounds_toArray, List.set_cons_zero, List.set_cons_succ])
                      (refine wpAnyH_take (i := 21) (v := ?_) rfl (by kernel_rfl) (by kernel_rfl) (by kernel_rfl) (fun _ _ _ h => h) (Or.inl ⟨by rfl, ?rt⟩) (by assumption) ?_; case rt => (intro w hSw; (try dsimp only at hSw); go_simp; (try with_reducible rfl))); (try simp only [Act.put, List.getElem_toArray, List.getElem_cons_succ, List.getElem_cons_zero, List.setIfInBounds_toArray, List.set_cons_zero, List.set_cons_succ])
                      (refine wpAnyH_take (i := 22) (v := ?_) rfl (by kernel_rfl) (by kernel_rfl) (by kernel_rfl) (fun _ _ _ h => h) (Or.inl ⟨by rfl, ?rt⟩) (by assumption) ?_; case rt => (intro w hSw; (try dsimp only at hSw); go_simp; (try with_reducible rfl))); (try simp only [Act.put, List.getElem_toArray, List.getElem_cons_succ, List.getElem_cons_zero, List.setIfInBounds_toArray, List.set_cons_zero, List.set_cons_succ])
                      (refine wpAnyH_take (i := 23) (v := ?_) rfl (by kernel_rfl) (by kernel_rfl) (by kernel_rfl) (fun _ _ _ h => h) (Or.inl ⟨by rfl, ?rt⟩) (by assumption) ?_; case rt => (intro w hSw; (try dsimp only at hSw); go_simp; (try with_reducible rfl))); (try simp only [Act.put, List.getElem_toArray, List.getElem_cons_succ, List.getElem_cons_zero, List.setIfInBounds_toArray, List.set_cons_zero, List.set_cons_succ])
                      (refine wpAnyH_take (i := 24) (v := ?_) rfl (by kernel_rfl) (by kernel_rfl) (by kernel_rfl) (fun _ _ _ h => h) (Or.inl ⟨by rfl, ?rt⟩) (by assumption) ?_; case rt => (intro w hSw; (try dsimp only at hSw); go_simp; (try with_reducible rfl))); (try simp only [Act.put, List.getElem_toArray, List.getElem_cons_succ, List.getElem_cons_zero, List.setIfInBounds_toArray, List.set_cons_zero, List.set_cons_succ])
                      (refine wpAnyH_take (i := 25) (v := ?_) rfl (by kernel_rfl) (by kernel_rfl) (by kernel_rfl) (fun _ _ _ h => h) (Or.inl ⟨by rfl, ?rt⟩) (by assumption) ?_; case rt => (intro w hSw; (try dsimp only at hSw); go_simp; (try with_reducible rfl))); (try simp only [Act.put, List.getElem_toArray, List.getElem_cons_succ, List.getElem_cons_zero, List.setIfInBounds_toArray, List.set_cons_zero, List.set_cons_succ])
                      (refine wpAnyH_take (i := 26) (v := ?_) rfl (by kernel_rfl) (by kernel_rfl) (by kernel_rfl) (fun _ _ _ h => h) (Or.inl ⟨by rfl, ?rt⟩) (by assumption) ?_; case rt => (intro w hSw; (try dsimp only at hSw); go_simp; (try with_reducible rfl))); (try simp only [Act.put, List.getElem_toArray, List.getElem_cons_succ, List.getElem_cons_zero, List.setIfInBounds_toArray, List.set_cons_zero, List.set_cons_succ])
                      (refine wpAnyH_take (i := 27) (v := ?_) rfl (by kernel_rfl) (by kernel_rfl) (by kernel_rfl) (fun _ _ _ h => h) (Or.inl ⟨by rfl, ?rt⟩) (by assumption) ?_; case rt => (intro w hSw; (try dsimp only at hSw); go_simp; (try with_reducible rfl))); (try simp only [Act.put, List.getElem_toArray, List.getElem_cons_succ, List.getElem_cons_zero, List.setIfInBounds_toArray, List.set_cons_zero, List.set_cons_succ])
                      (refine wpAnyH_take (i := 28) (v := ?_) rfl (by kernel_rfl) (by kernel_rfl) (by kernel_rfl) (fun _ _ _ h => h) (Or.inl ⟨by rfl, ?rt⟩) (by assumption) ?_; case rt => (intro w hSw; (try dsimp only at hSw); go_simp; (try with_reducible rfl))); (try simp only [Act.put, List.getElem_toArray, List.getElem_cons_succ, List.getElem_cons_zero, List.setIfInBounds_toArray, List.set_cons_zero, List.set_cons_succ])
                      refine wpAnyH_take (i := 29) (v := undef) rfl (by kernel_rfl) (by kernel_rfl) (by kernel_rfl) (fun _ _ _ h => h) (Or.inr ⟨by rfl, rfl⟩) (by assumption) ?_; (try simp only [Act.put, List.getElem_toArray, List.getElem_cons_succ, List.getElem_cons_zero, List.setIfInBounds_toArray, List.set_cons_zero, List.set_cons_succ])
                      refine wpAnyH_take (i := 30) (v := undef) rfl (by kernel_rfl) (by kernel_rfl) (by kernel_rfl) (fun _ _ _ h => h) (Or.inr ⟨by rfl, rfl⟩) (by assumption) ?_; (try simp only [Act.put, List.getElem_toArray, List.getElem_cons_succ, List.getElem_cons_zero, List.setIfInBounds_toArray, List.set_cons_zero, List.set_cons_succ])
                      refine wpAnyH_take (i := 31) (v := undef) rfl (by kernel_rfl) (by kernel_rfl) (by kernel_rfl) (fun _ _ _ h => h) (Or.inr ⟨by rfl, rfl⟩) (by assumption) ?_; (try simp only [Act.put, List.getElem_toArray, List.getElem_cons_succ, List.getElem_cons_zero, List.setIfInBounds_toArray, List.set_cons_zero, List.set_cons_succ])
                      refine wpAnyH_take (i := 32) (v := undef) rfl (by kernel_rfl) (by kernel_rfl) (by kernel_rfl) (fun _ _ _ h => h) (Or.inr ⟨by rfl, rfl⟩) (by assumption) ?_; (try simp only [Act.put, List.getElem_toArray, List.getElem_cons_succ, List.getElem_cons_zero, List.setIfInBounds_toArray, List.set_cons_zero, List.set_cons_succ])
                      refine wpAnyH_take (i := 33) (v := undef) rfl (by kernel_rfl) (by kernel_rfl) (by kernel_rfl) (fun _ _ _ h => h) (Or.inr ⟨by rfl, rfl⟩) (by assumption) ?_; (try simp only [Act.put, List.getElem_toArray, List.getElem_cons_succ, List.getElem_cons_zero, List.setIfInBounds_toArray, List.set_cons_zero, List.set_cons_succ])
                      refine wpAnyH_take (i := 34) (v := undef) rfl (by kernel_rfl) (by kernel_rfl) (by kernel_rfl) (fun _ _ _ h => h) (Or.inr ⟨by rfl, rfl⟩) (by assumption) ?_; (try simp only [Act.put, List.getElem_toArray, List.getElem_cons_succ, List.getElem_cons_zero, List.setIfInBounds_toArray, List.set_cons_zero, List.set_cons_succ])
                      refine wpAnyH_take (i := 35) (v := undef) rfl (by kernel_rfl) (by kernel_rfl) (by kernel_rfl) (fun _ _ _ h => h) (Or.inr ⟨by rfl, rfl⟩) (by assumption) ?_; (try simp only [Act.put, List.getElem_toArray, List.getElem_cons_succ, List.getElem_cons_zero, List.setIfInBounds_toArray, List.set_cons_zero, List.set_cons_succ])
                      refine wpAnyH_take (i := 36) (v := undef) rfl (by kernel_rfl) (by kernel_rfl) (by kernel_rfl) (fun _ _ _ h => h) (Or.inr ⟨by rfl, rfl⟩) (by assumption) ?_; (try simp only [Act.put, List.getElem_toArray, List.getElem_cons_succ, List.getElem_cons_zero, List.setIfInBounds_toArray, List.set_cons_zero, List.set_cons_succ])
                      refine wpAnyH_take (i := 37) (v := undef) rfl (by kernel_rfl) (by kernel_rfl) (by kernel_rfl) (fun _ _ _ h => h) (Or.inr ⟨by rfl, rfl⟩) (by assumption) ?_; (try simp only [Act.put, List.getElem_toArray, List.getElem_cons_succ, List.getElem_cons_zero, List.setIfInBounds_toArray, List.set_cons_zero, List.set_cons_succ])
                      refine wpAnyH_take (i := 38) (v := undef) rfl (by kernel_rfl) (by kernel_rfl) (by kernel_rfl) (fun _ _ _ h => h) (Or.inr ⟨by rfl, rfl⟩) (by assumption) ?_; (try simp only [Act.put, List.getElem_toArray, List.getElem_cons_succ, List.getElem_cons_zero, List.setIfInBounds_toArray, List.set_cons_zero, List.set_cons_succ])
                      refine wpAnyH_take (i := 39) (v := undef) rfl (by kernel_rfl) (by kernel_rfl) (by kernel_rfl) (fun _ _ _ h => h) (Or.inr ⟨by rfl, rfl⟩) (by assumption) ?_; (try simp only [Act.put, List.getElem_toArray, List.getElem_cons_succ, List.getElem_cons_zero, List.setIfInBounds_toArray, List.set_cons_zero, List.set_cons_succ])
                      refine wpAnyH_take (i := 40) (v := undef) rfl (by kernel_rfl) (by kernel_rfl) (by kernel_rfl) (fun _ _ _ h => h) (Or.inr ⟨by rfl, rfl⟩) (by assumption) ?_; (try simp only [Act.put, List.getElem_toArray, List.getElem_cons_succ, List.getElem_cons_zero, List.setIfInBounds_toArray, List.set_cons_zero, List.set_cons_succ])
                      refine wpAnyH_take (i := 41) (v := undef) rfl (by kernel_rfl) (by kernel_rfl) (by kernel_rfl) (fun _ _ _ h => h) (Or.inr ⟨by rfl, rfl⟩) (by assumption) ?_; (try simp only [Act.put, List.getElem_toArray, List.getElem_cons_succ, List.getElem_cons_zero, List.setIfInBounds_toArray, List.set_cons_zero, List.set_cons_succ])
                      refine wpAnyH_take (i := 42) (v := undef) rfl (by kernel_rfl) (by kernel_rfl) (by kernel_rfl) (fun _ _ _ h => h) (Or.inr ⟨by rfl, rfl⟩) (by assumption) ?_; (try simp only [Act.put, List.getElem_toArray, List.getElem_cons_succ, List.getElem_cons_zero, List.setIfInBounds_toArray, List.set_cons_zero, List.set_cons_succ])
                      (refine wpAnyH_take (i := 43) (v := ?_) rfl (by kernel_rfl) (by kernel_rfl) (by kernel_rfl) (fun _ _ _ h => h) (Or.inl ⟨by rfl, ?rt⟩) (by assumption) ?_; case rt => (intro w hSw; (try dsimp only at hSw); go_simp; (try with_reducible rfl))); (try simp only [Act.put, List.getElem_toArray, List.getElem_cons_succ, List.getElem_cons_zero, List.setIfInBounds_toArray, List.set_cons_zero, List.set_cons_succ])
                      (refine wpAnyH_take (i := 44) (v := ?_) rfl (by kernel_rfl) (by kernel_rfl) (by kernel_rfl) (fun _ _ _ h => h) (Or.inl ⟨by rfl, ?rt⟩) (by assumption) ?_; case rt => (intro w hSw; (try dsimp only at hSw); go_simp; (try with_reducible rfl))); (try simp only [Act.put, List.getElem_toArray, List.getElem_cons_succ, List.getElem_cons_zero, List.setIfInBounds_toArray, List.set_cons_zero, List.set_cons_succ])
                      refine wpAnyH_done (by kernel_rfl) ?_ _
                      have TQ := Lib.hid (T3.out.below hHeld.1).on
                      have BQ := Lib.hid (B3.out.trans (hHeld.1.mono B3.out.size))
                      have HLN := Lib.hid (show L.length ≤ 100 * (k + 1) by omega)
                      obtain ⟨L9, h9⟩ : ∃ L9, L9 = L := ⟨_, rfl⟩
                      subst h9
                      go_wp2
                      go_meet
                      exact ⟨pa, L9, rfl, rfl, TQ.out, HLN.out, BQ.out⟩
                    · have GC := Lib.hid (getI_no TO.out.first.choose_spec ix hin _ _ (errRange_at (HE.out.below BO.out)))
                      go_wp2_with fail
                      refine GC.out.mono ?_
                      rintro e w3 ⟨rfl, hb3⟩
                      have K3 := Lib.hid (OpS.below K0.out hb3)
                      have T3 := Lib.hid (TO.out.below hb3)
                      have B3 := Lib.hid (BO.out.trans (hb3.mono BO.out.size))
                      obtain ⟨o0, o1, o2, o3, _⟩ := K3.out
                      obtain ⟨M2, hM2⟩ := T3.out.second
                      have HM2 := Lib.hid hM2
                      have hs1 := cell_lt o1
                      have HAS2 := Lib.hid (fun W (h : RowKit.Below w3.heap.size w3 W) => (rhas_call (HM2.out.below h) ix).mono (fun e w' (q : _ ∧ _) => (show e = .returned (.bool false) ∧ RowKit.Below W.heap.size W w' from ⟨by rw [q.1, decide_eq_false hin], q.2 ▸ Below.refl _ _⟩)))
                      clear hb3 hM2 hin
                      go_wp2_with fail
                      refine wp_region_held_drew (S := (fun w' => Below (w3).heap.size (w3) w' ∧ ∀ b_1 o, b_1 < (w3).heap.size → w'.cell? ⟨b_1, o, none⟩ = (w3).cell? ⟨b_1, o, none⟩)) (by kernel_rfl) (keep0 _) (fun hHeld => ?_)
                      (refine wpAnyH_take (i := 0) (v := ?_) rfl (by kernel_rfl) (by kernel_rfl) (by kernel_rfl) (fun _ _ _ h => h) (Or.inl ⟨by rfl, ?rt⟩) (by assumption) ?_; case rt => (intro w hSw; (try dsimp only at hSw); go_simp; (try with_reducible rfl))); (try simp only [Act.put, List.getElem_toArray, List.getElem_cons_succ, List.getElem_cons_zero, List.setIfInBounds_toArray, List.set_cons_zero, List.set_cons_succ])
                      (refine wpAnyH_take (i := 1) (v := ?_) rfl (by kernel_rfl) (by kernel_rfl) (by kernel_rfl) (fun _ _ _ h => h) (Or.inl ⟨by rfl, ?rt⟩) (by assumption) ?_; case rt => (intro w hSw; (try dsimp only at hSw); go_simp; (try with_reducible rfl))); (try simp only [Act.put, List.getElem_toArray, List.getElem_cons_succ, List.getElem_cons_zero, List.setIfInBounds_toArray, List.set_cons_zero, List.set_cons_succ])
                      (refine wpAnyH_take (i := 2) (v := ?_) rfl (by kernel_rfl) (by kernel_rfl) (by kernel_rfl) (fun _ _ _ h => h) (Or.inl ⟨by rfl, ?rt⟩) (by assumption) ?_; case rt => (intro w hSw; (try dsimp only at hSw); go_simp; (try with_reducible rfl))); (try simp only [Act.put, List.getElem_toArray, List.getElem_cons_succ, List.getElem_cons_zero, List.setIfInBounds_toArray, List.set_cons_zero, List.set_cons_succ])
                      (refine wpAnyH_ready (rs := [3]) (by kernel_rfl) (by simp) ?_; refine AllReadyH.cons rfl (fun K hK => ?_) AllReadyH.nil; go_simp; refine (HAS2.out _ hHeld.1).mono ?_; rintro e w1 ⟨rfl, hb1⟩; refine hK.out _ _ (keepB (by assumption) hb1) (fun hHeld => ?_); clear hK K); (try simp only [Act.put, List.getElem_toArray, List.getElem_cons_succ, List.getElem_cons_zero, List.setIfInBounds_toArray, List.set_cons_zero, List.set_cons_succ])
                      (refine wpAnyH_take (i := 4) (v := ?_) rfl (by kernel_rfl) (by kernel_rfl) (by kernel_rfl) (fun _ _ _ h => h) (Or.inl ⟨by rfl, ?rt⟩) (by assumption) ?_; case rt => (intro w hSw; (try dsimp only at hSw); go_simp; (try with_reducible rfl))); (try simp only [Act.put, List.getElem_toArray, List.getElem_cons_succ, List.getElem_cons_zero, List.setIfInBounds_toArray, List.set_cons_zero, List.set_cons_succ])
                      refine wpAnyH_take (i := 5) (v := undef) rfl (by kernel_rfl) (by kernel_rfl) (by kernel_rfl) (fun _ _ _ h => h) (Or.inr ⟨by rfl, rfl⟩) (by assumption) ?_; (try simp only [Act.put, List.getElem_toArray, List.getElem_cons_succ, List.getElem_cons_zero, List.setIfInBounds_toArray, List.set_cons_zero, List.set_cons_succ])
                      refine wpAnyH_take (i := 6) (v := undef) rfl (by kernel_rfl) (by kernel_rfl) (by kernel_rfl) (fun _ _ _ h => h) (Or.inr ⟨by rfl, rfl⟩) (by assumption) ?_; (try simp only [Act.put, List.getElem_toArray, List.getElem_cons_succ, List.getElem_cons_zero, List.setIfInBounds_toArray, List.set_cons_zero, List.set_cons_succ])
                      (refine wpAnyH_take (i := 7) (v := ?_) rfl (by kernel_rfl) (by kernel_rfl) (by kernel_rfl) (fun _ _ _ h => h) (Or.inl ⟨by rfl, ?rt⟩) (by assumption) ?_; case rt => (intro w hSw; (try dsimp only at hSw); go_simp; (try with_reducible rfl))); (try simp only [Act.put, List.getElem_toArray, List.getElem_cons_succ, List.getElem_cons_zero, List.setIfInBounds_toArray, List.set_cons_zero, List.set_cons_succ])
                      (refine wpAnyH_take (i := 8) (v := ?_) rfl (by kernel_rfl) (by kernel_rfl) (by kernel_rfl) (fun _ _ _ h => h) (Or.inl ⟨by rfl, ?rt⟩) (by assumption) ?_; case rt => (intro w hSw; (try dsimp only at hSw); go_simp; (try with_reducible rfl))); (try simp only [Act.put, List.getElem_toArray, List.getElem_cons_succ, List.getElem_cons_zero, List.setIfInBounds_toArray, List.set_cons_zero, List.set_cons_succ])
                      refine wpAnyH_take (i := 9) (v := undef) rfl (by kernel_rfl) (by kernel_rfl) (by kernel_rfl) (fun _ _ _ h => h) (Or.inr ⟨by rfl, rfl⟩) (by assumption) ?_; (try simp only [Act.put, List.getElem_toArray, List.getElem_cons_succ, List.getElem_cons_zero, List.setIfInBounds_toArray, List.set_cons_zero, List.set_cons_succ])
                      refine wpAnyH_take (i := 10) (v := undef) rfl (by kernel_rfl) (by kernel_rfl) (by kernel_rfl) (fun _ _ _ h => h) (Or.inr ⟨by rfl, rfl⟩) (by assumption) ?_; (try simp only [Act.put, List.getElem_toArray, List.getElem_cons_succ, List.getElem_cons_zero, List.setIfInBounds_toArray, List.set_cons_zero, List.set_cons_succ])
                      refine wpAnyH_take (i := 11) (v := undef) rfl (by kernel_rfl) (by kernel_rfl) (by kernel_rfl) (fun _ _ _ h => h) (Or.inr ⟨by rfl, rfl⟩) (by assumption) ?_; (try simp only [Act.put, List.getElem_toArray, List.getElem_cons_succ, List.getElem_cons_zero, List.setIfInBounds_toArray, List.set_cons_zero, List.set_cons_succ])
                      refine wpAnyH_take (i := 12) (v := undef) rfl (by kernel_rfl) (by kernel_rfl) (by kernel_rfl) (fun _ _ _ h => h) (Or.inr ⟨by rfl, rfl⟩) (by assumption) ?_; (try simp only [Act.put, List.getElem_toArray, List.getElem_cons_succ, List.getElem_cons_zero, List.setIfInBounds_toArray, List.set_cons_zero, List.set_cons_succ])
                      refine wpAnyH_take (i := 13) (v := undef) rfl (by kernel_rfl) (by kernel_rfl) (by kernel_rfl) (fun _ _ _ h => h) (Or.inr ⟨by rfl, rfl⟩) (by assumption) ?_; (try simp only [Act.put, List.getElem_toArray, List.getElem_cons_succ, List.getElem_cons_zero, List.setIfInBounds_toArray, List.set_cons_zero, List.set_cons_succ])
                      refine wpAnyH_take (i := 14) (v := undef) rfl (by kernel_rfl) (by kernel_rfl) (by kernel_rfl) (fun _ _ _ h => h) (Or.inr ⟨by rfl, rfl⟩) (by assumption) ?_; (try simp only [Act.put, List.getElem_toArray, List.getElem_cons_succ, List.getElem_cons_zero, List.setIfInBounds_toArray, List.set_cons_zero, List.set_cons_succ])
                      refine wpAnyH_take (i := 15) (v := undef) rfl (by kernel_rfl) (by kernel_rfl) (by kernel_rfl) (fun _ _ _ h => h) (Or.inr ⟨by rfl, rfl⟩) (by assumption) ?_; (try simp only [Act.put, List.getElem_toArray, List.getElem_cons_succ, List.getElem_cons_zero, List.setIfInBounds_toArray, List.set_cons_zero, List.set_cons_succ])
                      refine wpAnyH_take (i := 16) (v := undef) rfl (by kernel_rfl) (by kernel_rfl) (by kernel_rfl) (fun _ _ _ h => h) (Or.inr ⟨by rfl, rfl⟩) (by assumption) ?_; (try simp only [Act.put, List.getElem_toArray, List.getElem_cons_succ, List.getElem_cons_zero, List.setIfInBounds_toArray, List.set_cons_zero, List.set_cons_succ])
                      refine wpAnyH_take (i := 17) (v := undef) rfl (by kernel_rfl) (by kernel_rfl) (by kernel_rfl) (fun _ _ _ h => h) (Or.inr ⟨by rfl, rfl⟩) (by assumption) ?_; (try simp only [Act.put, List.getElem_toArray, List.getElem_cons_succ, List.getElem_cons_zero, List.setIfInBounds_toArray, List.set_cons_zero, List.set_cons_succ])
                      refine wpAnyH_take (i := 18) (v := undef) rfl (by kernel_rfl) (by kernel_rfl) (by kernel_rfl) (fun _ _ _ h => h) (Or.inr ⟨by rfl, rfl⟩) (by assumption) ?_; (try simp only [Act.put, List.getElem_toArray, List.getElem_cons_succ, List.getElem_cons_zero, List.setIfInBounds_toArray, List.set_cons_zero, List.set_cons_succ])
                      refine wpAnyH_take (i := 19) (v := undef) rfl (by kernel_rfl) (by kernel_rfl) (by kernel_rfl) (fun _ _ _ h => h) (Or.inr ⟨by rfl, rfl⟩) (by assumption) ?_; (try simp only [Act.put, List.getElem_toArray, List.getElem_cons_succ, List.getElem_cons_zero, List.setIfInBounds_toArray, List.set_cons_zero, List.set_cons_succ])
                      refine wpAnyH_take (i := 20) (v := undef) rfl (by kernel_rfl) (by kernel_rfl) (by kernel_rfl) (fun _ _ _ h => h) (Or.inr ⟨by rfl, rfl⟩) (by assumption) ?_; (try simp only [Act.put, List.getElem_toArray, List.getElem_cons_succ, List.getElem_cons_zero, List.setIfInBounds_toArray, List.set_cons_zero, List.set_cons_succ])
                      refine wpAnyH_take (i := 21) (v := undef) rfl (by kernel_rfl) (by kernel_rfl) (by kernel_rfl) (fun _ _ _ h => h) (Or.inr ⟨by rfl, rfl⟩) (by assumption) ?_; (try simp only [Act.put, List.getElem_toArray, List.getElem_cons_succ, List.getElem_cons_zero, List.setIfInBounds_toArray, List.set_cons_zero, List.set_cons_succ])
                      refine wpAnyH_take (i := 22) (v := undef) rfl (by kernel_rfl) (by kernel_rfl) (by kernel_rfl) (fun _ _ _ h => h) (Or.inr ⟨by rfl, rfl⟩) (by assumption) ?_; (try simp only [Act.put, List.getElem_toArray, List.getElem_cons_succ, List.getElem_cons_zero, List.setIfInBounds_toArray, List.set_cons_zero, List.set_cons_succ])
                      refine wpAnyH_take (i := 23) (v := undef) rfl (by kernel_rfl) (by kernel_rfl) (by kernel_rfl) (fun _ _ _ h => h) (Or.inr ⟨by rfl, rfl⟩) (by assumption) ?_; (try simp only [Act.put, List.getElem_toArray, List.getElem_cons_succ, List.getElem_cons_zero, List.setIfInBounds_toArray, List.set_cons_zero, List.set_cons_succ])
                      refine wpAnyH_take (i := 24) (v := undef) rfl (by kernel_rfl) (by kernel_rfl) (by kernel_rfl) (fun _ _ _ h => h) (Or.inr ⟨by rfl, rfl⟩) (by assumption) ?_; (try simp only [Act.put, List.getElem_toArray, List.getElem_cons_succ, List.getElem_cons_zero, List.setIfInBounds_toArray, List.set_cons_zero, List.set_cons_succ])
                      refine wpAnyH_take (i := 25) (v := undef) rfl (by kernel_rfl) (by kernel_rfl) (by kernel_rfl) (fun _ _ _ h => h) (Or.inr ⟨by rfl, rfl⟩) (by assumption) ?_; (try simp only [Act.put, List.getElem_toArray, List.getElem_cons_succ, List.getElem_cons_zero, List.setIfInBounds_toArray, List.set_cons_zero, List.set_cons_succ])
                      refine wpAnyH_take (i := 26) (v := undef) rfl (by kernel_rfl) (by kernel_rfl) (by kernel_rfl) (fun _ _ _ h => h) (Or.inr ⟨by rfl, rfl⟩) (by assumption) ?_; (try simp only [Act.put, List.getElem_toArray, List.getElem_cons_succ, List.getElem_cons_zero, List.setIfInBounds_toArray, List.set_cons_zero, List.set_cons_succ])
                      (refine wpAnyH_take (i := 27) (v := ?_) rfl (by kernel_rfl) (by kernel_rfl) (by kernel_rfl) (fun _ _ _ h => h) (Or.inl ⟨by rfl, ?rt⟩) (by assumption) ?_; case rt => (intro w hSw; (try dsimp only at hSw); go_simp; (try with_reducible rfl))); (try simp only [Act.put, List.getElem_toArray, List.getElem_cons_succ, List.getElem_cons_zero, List.setIfInBounds_toArray, List.set_cons_zero, List.set_cons_succ])
                      (refine wpAnyH_take (i := 28) (v := ?_) rfl (by kernel_rfl) (by kernel_rfl) (by kernel_rfl) (fun _ _ _ h => h) (Or.inl ⟨by rfl, ?rt⟩) (by assumption) ?_; case rt => (intro w hSw; (try dsimp only at hSw); go_simp; (try with_reducible rfl))); (try simp only [Act.put, List.getElem_toArray, List.getElem_cons_succ, List.getElem_cons_zero, List.setIfInBounds_toArray, List.set_cons_zero, List.set_cons_succ])
                      (refine wpAnyH_take (i := 29) (v := ?_) rfl (by kernel_rfl) (by kernel_rfl) (by kernel_rfl) (fun _ _ _ h => h) (Or.inl ⟨by rfl, ?rt⟩) (by assumption) ?_; case rt => (intro w hSw; (try dsimp only at hSw); go_simp; (try with_reducible rfl))); (try simp only [Act.put, List.getElem_toArray, List.getElem_cons_succ, List.getElem_cons_zero, List.setIfInBounds_toArray, List.set_cons_zero, List.set_cons_succ])
                      (refine wpAnyH_take (i := 30) (v := ?_) rfl (by kernel_rfl) (by kernel_rfl) (by kernel_rfl) (fun _ _ _ h => h) (Or.inl ⟨by rfl, ?rt⟩) (by assumption) ?_; case rt => (intro w hSw; (try dsimp only at hSw); go_simp; (try with_reducible rfl))); (try simp only [Act.put, List.getElem_toArray, List.getElem_cons_succ, List.getElem_cons_zero, List.setIfInBounds_toArray, List.set_cons_zero, List.set_cons_succ])
                      (refine wpAnyH_take (i := 31) (v := ?_) rfl (by kernel_rfl) (by kernel_rfl) (by kernel_rfl) (fun _ _ _ h => h) (Or.inl ⟨by rfl, ?rt⟩) (by assumption) ?_; case rt => (intro w hSw; (try dsimp only at hSw); go_simp; (try with_reducible rfl))); (try simp only [Act.put, List.getElem_toArray, List.getElem_cons_succ, List.getElem_cons_zero, List.setIfInBounds_toArray, List.set_cons_zero, List.set_cons_succ])
                      (refine wpAnyH_ready (rs := [32]) (by kernel_rfl) (by simp) ?_; refine AllReadyH.cons rfl (fun K hK => ?_) AllReadyH.nil; go_simp; refine (HAS2.out _ hHeld.1).mono ?_; rintro e w1 ⟨rfl, hb1⟩; refine hK.out _ _ (keepB (by assumption) hb1) (fun hHeld => ?_); clear hK K); (try simp only [Act.put, List.getElem_toArray, List.getElem_cons_succ, List.getElem_cons_zero, List.setIfInBounds_toArray, List.set_cons_zero, List.set_cons_succ])
                      (refine wpAnyH_take (i := 33) (v := ?_) rfl (by kernel_rfl) (by kernel_rfl) (by kernel_rfl) (fun _ _ _ h => h) (Or.inl ⟨by rfl, ?rt⟩) (by assumption) ?_; case rt => (intro w hSw; (try dsimp only at hSw); go_simp; (try with_reducible rfl))); (try simp only [Act.put, List.getElem_toArray, List.getElem_cons_succ, List.getElem_cons_zero, List.setIfInBounds_toArray, List.set_cons_zero, List.set_cons_succ])
                      (refine wpAnyH_take (i := 34) (v := ?_) rfl (by kernel_rfl) (by kernel_rfl) (by kernel_rfl) (fun _ _ _ h => h) (Or.inl ⟨by rfl, ?rt⟩) (by assumption) ?_; case rt => (intro w hSw; (try dsimp only at hSw); go_simp; (try with_reducible rfl))); (try simp only [Act.put, List.getElem_toArray, List.getElem_cons_succ, List.getElem_cons_zero, List.setIfInBounds_toArray, List.set_cons_zero, List.set_cons_succ])
                      (refine wpAnyH_take (i := 35) (v := ?_) rfl (by kernel_rfl) (by kernel_rfl) (by kernel_rfl) (fun _ _ _ h => h) (Or.inl ⟨by rfl, ?rt⟩) (by assumption) ?_; case rt => (intro w hSw; (try dsimp only at hSw); go_simp; (try with_reducible rfl))); (try simp only [Act.put, List.getElem_toArray, List.getElem_cons_succ, List.getElem_cons_zero, List.setIfInBounds_toArray, List.set_cons_zero, List.set_cons_succ])
                      (refine wpAnyH_take (i := 36) (v := ?_) rfl (by kernel_rfl) (by kernel_rfl) (by kernel_rfl) (fun _ _ _ h => h) (Or.inl ⟨by rfl, ?rt⟩) (by assumption) ?_; case rt => (intro w hSw; (try dsimp only at hSw); go_simp; (try with_reducible rfl))); (try simp only [Act.put, List.getElem_toArray, List.getElem_cons_succ, List.getElem_cons_zero, List.setIfInBounds_toArray, List.set_cons_zero, List.set_cons_succ])
                      (refine wpAnyH_take (i := 37) (v := ?_) rfl (by kernel_rfl) (by kernel_rfl) (by kernel_rfl) (fun _ _ _ h => h) (Or.inl ⟨by rfl, ?rt⟩) (by assumption) ?_; case rt => (intro w hSw; (try dsimp only at hSw); go_simp; (try with_reducible rfl))); (try simp only [Act.put, List.getElem_toArray, List.getElem_cons_succ, List.getElem_cons_zero, List.setIfInBounds_toArray, List.set_cons_zero, List.set_cons_succ])
                      (refine wpAnyH_take (i := 38) (v := ?_) rfl (by kernel_rfl) (by kernel_rfl) (by kernel_rfl) (fun _ _ _ h => h) (Or.inl ⟨by rfl, ?rt⟩) (by assumption) ?_; case rt => (intro w hSw; (try dsimp only at hSw); go_simp; (try with_reducible rfl))); (try simp only [Act.put, List.getElem_toArray, List.getElem_cons_succ, List.getElem_cons_zero, List.setIfInBounds_toArray, List.set_cons_zero, List.set_cons_succ])
                      (refine wpAnyH_take (i := 39) (v := ?_) rfl (by kernel_rfl) (by kernel_rfl) (by kernel_rfl) (fun _ _ _ h => h) (Or.inl ⟨by rfl, ?rt⟩) (by assumption) ?_; case rt => (intro w hSw; (try dsimp only at hSw); go_simp; (try with_reducible rfl))); (try simp only [Act.put, List.getElem_toArray, List.getElem_cons_succ, List.getElem_cons_zero, List.setIfInBounds_toArray, List.set_cons_zero, List.set_cons_succ])
                      (refine wpAnyH_ready (rs := [40]) (by kernel_rfl) (by simp) ?_; refine AllReadyH.cons rfl (fun K hK => ?_) AllReadyH.nil; go_simp; refine (num_range (HE.out.below (B3.out.trans (hHeld.1.mono B3.out.size)))).mono ?_; rintro e w1 ⟨rfl, hb1⟩; refine hK.out _ _ (keepB (by assumption) hb1) (fun hHeld => ?_); clear hK K); (try simp only [Act.put, List.getElem_toArray, List.getElem_cons_succ, List.getElem_cons_zero, List.setIfInBounds_toArray, List.set_cons_zero, List.set_cons_succ])
                      (refine wpAnyH_take (i := 41) (v := ?_) rfl (by kernel_rfl) (by kernel_rfl) (by kernel_rfl) (fun _ _ _ h => h) (Or.inl ⟨by rfl, ?rt⟩) (by assumption) ?_; case rt => (intro w hSw; (try dsimp only at hSw); go_simp; (try with_reducible rfl))); (try simp only [Act.put, List.getElem_toArray, List.getElem_cons_succ, List.getElem_cons_zero, List.setIfInBounds_toArray, List.set_cons_zero, List.set_cons_succ])
                      (refine wpAnyH_take (i := 42) (v := ?_) rfl (by kernel_rfl) (by kernel_rfl) (by kernel_rfl) (fun _ _ _ h => h) (Or.inl ⟨by rfl, ?rt⟩) (by assumption) ?_; case rt => (intro w hSw; (try dsimp only at hSw); go_simp; (try with_reducible rfl))); (try simp only [Act.put, List.getElem_toArray, List.getElem_cons_succ, List.getElem_cons_zero, List.setIfInBounds_toArray, List.set_cons_zero, List.set_cons_succ])
                      (refine wpAnyH_take (i := 43) (v := ?_) rfl (by kernel_rfl) (by kernel_rfl) (by kernel_rfl) (fun _ _ _ h => h) (Or.inl ⟨by rfl, ?rt⟩) (by assumption) ?_; case rt => (intro w hSw; (try dsimp only at hSw); go_simp; (try with_reducible rfl))); (try simp only [Act.put, List.getElem_toArray, List.getElem_cons_succ, List.getElem_cons_zero, List.setIfInBounds_toArray, List.set_cons_zero, List.set_cons_succ])
                      (refine wpAnyH_take (i := 44) (v := ?_) rfl (by kernel_rfl) (by kernel_rfl) (by kernel_rfl) (fun _ _ _ h => h) (Or.inl ⟨by rfl, ?rt⟩) (by assumption) ?_; case rt => (intro w hSw; (try dsimp only at hSw); go_simp; (try with_reducible rfl))); (try simp only [Act.put, List.getElem_toArray, List.getElem_cons_succ, List.getElem_cons_zero, List.setIfInBounds_toArray, List.set_cons_zero, List.set_cons_succ])
                      refine wpAnyH_done (by kernel_rfl) ?_ _
                      have TQ := Lib.hid (T3.out.below hHeld.1).on
                      have BQ := Lib.hid (B3.out.trans (hHeld.1.mono B3.out.size))
                      have HLN := Lib.hid (show L.length ≤ 100 * (k + 1) by omega)
                      obtain ⟨L9, h9⟩ : ∃ L9, L9 = L := ⟨_, rfl⟩
                      subst h9
                      go_wp2
                      go_meet
                      exact ⟨pa, L9, rfl, rfl, TQ.out, HLN.out, BQ.out⟩
                · have k2 : (kd == 2) = false := by simpa using h2
                  by_cases h3 : kd = 3
                  · subst h3
                    clear h1 h2 k1 k2
                    as_aux_lemma =>
                      obtain ⟨XX, hXX⟩ : ∃ XX : Nat → Prop, XX = fun b => wq.heap.size ≤ b ∧ b < (wq.alloc (.cells #[.int .i64 3, .int .i64 ix, .int .i64 xx, .slice p3 ll.length c3] 32)).heap.size := ⟨_, rfl⟩
                      have HXO := Lib.hid (show XX wq.heap.size by rw [hXX]; exact ⟨Nat.le_refl _, by simp⟩)
                      have TO := Lib.hid (show Tw w XX (wq.alloc (.cells #[.int .i64 3, .int .i64 ix, .int .i64 xx, .slice p3 ll.length c3] 32)) pa L pb L m by rw [hXX]; exact HTW.out.off D1.out)
                      have K0 := Lib.hid (OpS.mk A1.out BO.out)
                      have hszo : w.heap.size ≤ (wq.alloc (.cells #[.int .i64 3, .int .i64 ix, .int .i64 xx, .slice p3 ll.length c3] 32)).heap.size := BO.out.size
                      have HSZO := Lib.hid hszo
                      clear hXX hszo
                      by_cases hin : 0 ≤ ix ∧ ix < L.length
                      · obtain ⟨hi0, hi1⟩ := hin
                        obtain ⟨n, rfl⟩ : ∃ n : Nat, ix = n := ⟨ix.toNat, by omega⟩
                        have hn : n < L.length := by omega
                        have SC := Lib.hid (TO.out.ask1 (fun M h => setI_yes h n hn xx))
                        go_wp2_with fail
                        refine SC.out.mono ?_
                        rintro e w3 ⟨rfl, ht3, hk3⟩
                        have T3 := Lib.hid ht3
                        have B3 := Lib.hid (BO.out.trans (Off.below hk3 HSZO.out))
                        have K3 := Lib.hid (OpS.off K0.out hk3 HXO.out)
                        have HC := Lib.hid (rhas_call T3.out.second.choose_spec n)
                        rw [decide_eq_true (show 0 ≤ (n : Int) ∧ (n : Int) < L.length from ⟨by omega, hi1⟩)] at HC
                        obtain ⟨o0, o1, o2, o3, _⟩ := K3.out
                        clear ht3 hk3
                        go_wp2_with fail
                        refine HC.out.mono ?_
                        rintro e w4 ⟨rfl, rfl⟩
                        obtain ⟨M2, hM2, hstep⟩ := T3.out.step2
                        have HST := Lib.hid hstep
                        obtain ⟨q2, j2, hi2, r1, r2, r3⟩ := hM2.open
                        have HI2 := Lib.hid hi2
                        obtain ⟨s0, _, sf, _⟩ := hi2.cells
                        have hs0 := cell_lt s0
                        have hpw : pb ≠ w3.heap.size := by omega
                        have B5 := Lib.hid (Ba (Below.refl _ w3) (.cells #[] 3))
                        have O5 := Lib.hid (show (w3.alloc (.cells #[] 3)).ownsRow w3.heap.size 3 1 (.slice (some ⟨w3.heap.size, 0, none⟩) 0 0) ([] : List Int).length (flat encI []) from World.ownsRow_made _ #[] 0 (Nat.le_refl _) (Nat.zero_le _) (by simp))
                        have S5 := Lib.hid ((hi2.2.2.sl lenI).below B5.out)
                        clear hstep hM2 hi2 r3 SC HC
                        go_upto_region 31 with (at_builtin; refine wpl_app2 apI rfl _ _ rfl w3.heap.size (by rfl) (by rfl) O5.out rfl S5.out (by simp; omega) B5.out.size ?_; intro v6 w6 hown6 hgrow6 hat6 hnn6; clear hnn6; rw [List.nil_append] at hown6; obtain ⟨p6, c6, rfl, t5, _, t6⟩ := row_val hown6; obtain ⟨g6, rfl, hg6, _⟩ := t6 (by omega); have B6 := Lib.hid (grownB B5.out O5.out hgrow6); have O6 := Lib.hid hown6; have P6 := Lib.hid (HI2.out.below B6.out); obtain ⟨y0, _, yf, _⟩ := P6.out.cells; have hpb6 := P6.out.lt; clear hown6 hgrow6 hat6 t6)
                        obtain ⟨P7, t7⟩ := col_put (T := 29) (M := New M2 w3 w6) (L := L) (by decide) P6.out.1 (.inl P6.out.2.1) ((row_fresh O6.out).mono (fun b h => h.elim (fun q => q.elim) .inr))
                        have hlo2 := T3.out.lo2
                        obtain ⟨W7, hW7⟩ : ∃ W7, W7 = w6.setCell ⟨pb, 0, none⟩ (.slice (some ⟨g6, 0, none⟩) L.length c6) := ⟨_, rfl⟩
                        have P7 := Lib.hid (show ColIs encI 3 1 29 W7 (New M2 w3 w6) pb (.slice (some ⟨g6, 0, none⟩) L.length c6) L m by rw [hW7]; exact P7)
                        have T7 := Lib.hid (show Tch M2 w3 W7 by rw [hW7]; exact (Tch.of B6.out).trans t7)
                        have K7 := Lib.hid (show OpS w wq.heap.size 3 n xx (.slice p3 ll.length c3) W7 by rw [hW7]; exact (OpS.below K3.out B6.out).set P6.out.1 (by decide) hlo2 _)
                        have Z7 := Lib.hid (show w6.heap.size ≤ W7.heap.size by rw [hW7]; simp)
                        have hg6lo := Nat.le_trans B3.out.size (O6.out.lt g6 rfl).1
                        rw [← hW7]
                        clear hW7 t7 y0 yf hpb6 o0 o1 o2 o3 s0 sf hs0
                        obtain ⟨o0, o1, o2, o3, _⟩ := K7.out
                        obtain ⟨y0, _, yf, _⟩ := P7.out.cells
                        have d1 := row_cell1 cI P7.out.2.2.1 n hn
                        have fz := P7.out.2.2.1.frozenAt n
                        have hl7 := P7.out.lt
                        generalize L[n]! = yy at d1
                        obtain ⟨P8, t8⟩ := P7.out.cell (by decide) n (.int .i64 xx) (flat1_set cI L n xx) (List.length_set ..)
                        obtain ⟨cg, hcg⟩ := row_type P7.out.2.2.1 (g := g6) rfl
                        have K8 := OpS.below (K7.out.set (p := ⟨g6, n, none⟩) hcg (by decide) hg6lo (.int .i64 xx)) (Bd (Below.refl _ _))
                        have hst : (W7.setCell ⟨g6, n, none⟩ (.int .i64 xx)).drew.cell? ⟨pb, 0, none⟩ = some (.slice (some ⟨g6, 0, none⟩) L.length c6) ∧ (W7.setCell ⟨g6, n, none⟩ (.int .i64 xx)).drew.cell? ⟨wq.heap.size, 1, none⟩ = some (.int .i64 n) ∧ (W7.setCell ⟨g6, n, none⟩ (.int .i64 xx)).drew.cell? ⟨wq.heap.size, 2, none⟩ = some (.int .i64 xx) := ⟨P8.cells.1, K8.2.1, K8.2.2.1⟩
                        have TF := Lib.hid (HST.out (W7.setCell ⟨g6, n, none⟩ (.int .i64 xx)).drew (L.set n xx) ((P8.at.below (Bd (Below.refl _ _))).mono (New.mono (by have := Z7.out; simpa using this))) (T7.out.trans ((t8.mono (New.mono Z7.out)).more (Tch.of (Bd (Below.refl _ _))))))
                        clear P8 t8 K8 hcg
                        go_region_held3 (fun W => W.cell? ⟨pb, 0, none⟩ = some (.slice (some ⟨g6, 0, none⟩) L.length c6) ∧ W.cell? ⟨wq.heap.size, 1, none⟩ = some (.int .i64 n) ∧ W.cell? ⟨wq.heap.size, 2, none⟩ = some (.int .i64 xx)) (first | exact ⟨y0, o1, o2⟩ | exact hst) (fail)
                        all_goals
                          have TQ := Lib.hid TF.out.1.on
                          have BQ := Lib.hid (B3.out.trans (Off.below TF.out.2 B3.out.size))
                          clear hst
                          have HLN := Lib.hid (show (L.set n xx).length ≤ 100 * (k + 1) by rw [List.length_set]; omega)
                          obtain ⟨L9, h9⟩ : ∃ L9, L9 = L.set n xx := ⟨_, rfl⟩
                          rw [← h9] at TQ HLN
                          clear h9
                          go_wp2
                          go_meet
                          exact ⟨pa, L9, rfl, rfl, TQ.out, HLN.out, BQ.out⟩
                      · have SC := Lib.hid (setI_no TO.out.first.choose_spec ix hin xx _ _ (errRange_at (HE.out.below BO.out)))
                        go_wp2_with fail
                        refine SC.out.mono ?_
                        rintro e w3 ⟨rfl, hb3⟩
                        have T3 := Lib.hid (TO.out.below hb3)
                        have B3 := Lib.hid (BO.out.trans (hb3.mono BO.out.size))
                        have K3 := Lib.hid (OpS.below K0.out hb3)
                        have HC := Lib.hid (rhas_call T3.out.second.choose_spec ix)
                        rw [decide_eq_false hin] at HC
                        obtain ⟨o0, o1, o2, o3, _⟩ := K3.out
                        clear hb3 hin
                        go_wp2_with fail
                        refine HC.out.mono ?_
                        rintro e w4 ⟨rfl, rfl⟩
                        go_wp2_with fail
                        refine (num_range (HE.out.below B3.out)).mono ?_
                        rintro e w5 ⟨rfl, hb5⟩
                        have TQ := Lib.hid (T3.out.below hb5).on
                        have BQ := Lib.hid (B3.out.trans (hb5.mono B3.out.size))
                        clear hb5
                        have HLN := Lib.hid (show L.length ≤ 100 * (k + 1) by omega)
                        obtain ⟨L9, h9⟩ : ∃ L9, L9 = L := ⟨_, rfl⟩
                        subst h9
                        go_wp2
                        go_meet
                        exact ⟨pa, L9, rfl, rfl, TQ.out, HLN.out, BQ.out⟩
                  · have k3 : (kd == 3) = false := by simpa using h3
                    by_cases h4 : kd = 4
                    · subst h4
                      clear h1 h2 h3 k1 k2 k3
                      as_aux_lemma =>
                        obtain ⟨XX, hXX⟩ : ∃ XX : Nat → Prop, XX = fun b => wq.heap.size ≤ b ∧ b < (wq.alloc (.cells #[.int .i64 4, .int .i64 ix, .int .i64 xx, .slice p3 ll.length c3] 32)).heap.size := ⟨_, rfl⟩
                        have HXO := Lib.hid (show XX wq.heap.size by rw [hXX]; exact ⟨Nat.le_refl _, by simp⟩)
                        have TO := Lib.hid (show Tw w XX (wq.alloc (.cells #[.int .i64 4, .int .i64 ix, .int .i64 xx, .slice p3 ll.length c3] 32)) pa L pb L m by rw [hXX]; exact HTW.out.off D1.out)
                        have K0 := Lib.hid (OpS.mk A1.out BO.out)
                        have hszo : w.heap.size ≤ (wq.alloc (.cells #[.int .i64 4, .int .i64 ix, .int .i64 xx, .slice p3 ll.length c3] 32)).heap.size := BO.out.size
                        have HSZO := Lib.hid hszo
                        clear hXX hszo
                        by_cases hin : 0 ≤ ix ∧ ix < L.length
                        · obtain ⟨hi0, hi1⟩ := hin
                          obtain ⟨n, rfl⟩ : ∃ n : Nat, ix = n := ⟨ix.toNat, by omega⟩
                          have hn : n < L.length := by omega
                          have TC := Lib.hid (TO.out.ask1 (fun M h => takeI_yes h n hn))
                          have RT := Lib.hid (fun W (h : Tw w XX W pa (takeC L n) pb L m) => h.ask2 (fun M h => rtake_yes h n hn (by omega)))
                          generalize L[n]! = y at TC RT
                          go_wp2_with fail
                          refine TC.out.mono ?_
                          rintro e w3 ⟨rfl, ht3, hk3⟩
                          have T3 := Lib.hid ht3
                          have B3 := Lib.hid (BO.out.trans (Off.below hk3 HSZO.out))
                          have K3 := Lib.hid (OpS.off K0.out hk3 HXO.out)
                          obtain ⟨o0, o1, o2, o3, _⟩ := K3.out
                          clear ht3 hk3
                          go_wp2_with fail
                          refine (RT.out _ T3.out).mono ?_
                          rintro e w4 ⟨rfl, ht4, hk4⟩
                          have T4 := Lib.hid ht4
                          have B4 := Lib.hid (B3.out.trans (Off.below hk4 B3.out.size))
                          clear ht4 hk4
                          go_wp2_with fail
                          refine (num_nil w4).mono ?_
                          rintro e w5 ⟨rfl, hb5⟩
                          have TQ := Lib.hid (T4.out.below hb5).on
                          have BQ := Lib.hid (B4.out.trans (hb5.mono B4.out.size))
                          clear hb5
                          have HLN := Lib.hid (show (takeC L n).length ≤ 100 * (k + 1) by rw [takeC_len]; omega)
                          obtain ⟨L9, h9⟩ : ∃ L9, L9 = takeC L n := ⟨_, rfl⟩
                          rw [← h9] at TQ HLN
                          clear h9
                          go_wp2
                          go_meet
                          exact ⟨pa, L9, rfl, rfl, TQ.out, HLN.out, BQ.out⟩
                        · have TC := Lib.hid (takeI_no TO.out.first.choose_spec ix hin _ _ (errRange_at (HE.out.below BO.out)))
                          go_wp2_with fail
                          refine TC.out.mono ?_
                          rintro e w3 ⟨rfl, hb3⟩
                          have T3 := Lib.hid (TO.out.below hb3)
                          have B3 := Lib.hid (BO.out.trans (hb3.mono BO.out.size))
                          have K3 := Lib.hid (OpS.below K0.out hb3)
                          have RT := Lib.hid (rtake_no T3.out.second.choose_spec ix hin)
                          obtain ⟨o0, o1, o2, o3, _⟩ := K3.out
                          clear hb3 hin
                          go_wp2_with fail
                          refine RT.out.mono ?_
                          rintro e w4 ⟨rfl, hb4⟩
                          have T4 := Lib.hid (T3.out.below hb4)
                          have B4 := Lib.hid (B3.out.trans (hb4.mono B3.out.size))
                          clear hb4
                          go_wp2_with fail
                          refine (num_range (HE.out.below B4.out)).mono ?_
                          rintro e w5 ⟨rfl, hb5⟩
                          have TQ := Lib.hid (T4.out.below hb5).on
                          have BQ := Lib.hid (B4.out.trans (hb5.mono B4.out.size))
                          clear hb5
                          have HLN := Lib.hid (show L.length ≤ 100 * (k + 1) by omega)
                          obtain ⟨L9, h9⟩ : ∃ L9, L9 = L := ⟨_, rfl⟩
                          subst h9
                          go_wp2
                          go_meet
                          exact ⟨pa, L9, rfl, rfl, TQ.out, HLN.out, BQ.out⟩
                    · have k4 : (kd == 4) = false := by simpa using h4
                      by_cases h5 : kd = 5
                      · subst h5
                        clear h1 h2 h3 h4 k1 k2 k3 k4
                        as_aux_lemma =>
                          have TB := Lib.hid (HTW.out.below D1.out)
                          have CL := Lib.hid (cloneI_call TB.out.first.choose_spec (by omega))
                          go_wp2_with fail
                          refine CL.out.mono ?_
                          rintro e w3 ⟨pc, rfl, hp3, hb3⟩
                          have B3 := Lib.hid (BO.out.trans (hb3.mono BO.out.size))
                          have TK := Lib.hid (TwoC.clone (P := fun e => ∃ u, e = .returned (.tuple u)) TB.out hp3 hb3 (fun M hM => take_zero hM A (HE.out.below B3.out)))
                          clear hp3 hb3
                          go_wp2_with fail
                          refine TK.out.mono ?_
                          rintro e w4 ⟨⟨u, rfl⟩, ht4, hb4⟩
                          have TQ := Lib.hid ht4
                          have BQ := Lib.hid (BO.out.trans hb4)
                          clear ht4 hb4
                          have HLN := Lib.hid (show L.length ≤ 100 * (k + 1) by omega)
                          obtain ⟨L9, h9⟩ : ∃ L9, L9 = L := ⟨_, rfl⟩
                          subst h9
                          go_wp2
                          go_meet
                          exact ⟨pc, L9, rfl, rfl, TQ.out, HLN.out, BQ.out⟩
                      · have k5 : (kd == 5) = false := by simpa using h5
                        clear h1 h2 h3 h4 h5
                        have TQ := Lib.hid (HTW.out.below D1.out)
                        have BQ := Lib.hid BO.out
                        have HLN := Lib.hid (show L.length ≤ 100 * (k + 1) by omega)
                        obtain ⟨L9, h9⟩ : ∃ L9, L9 = L := ⟨_, rfl⟩
                        subst h9
                        go_wp2
                        go_meet
                        exact ⟨pa, L9, rfl, rfl, TQ.out, HLN.out, BQ.out⟩
            case rest =>
              obtain ⟨pa9, L9, rfl, rfl, ht9, hl9, hb9⟩ := hcut
              have TQ := Lib.hid ht9
              have HLN := Lib.hid hl9
              have BQ := Lib.hid hb9
              clear ht9 hl9 hb9
              as_aux_lemma =>
                obtain ⟨qT, jT, hT⟩ := TailS.made TQ.out BQ.out
                have KT := Lib.hid (TailS.below hT (Bd (Below.refl _ _)))
                have hlT := cell_lt hT.1
                clear hT
                go_wp2_with fail
                go_region_held3 (fun W' => W'.cell? ⟨pb, 0, none⟩ = some (.slice qT L9.length jT) ∧ TailR w pa9 pb L9 m qT jT W') (first | exact KT.out | exact TailS.below (by assumption) hbL | assumption) ((first | (go_at_call 21; refine (TailS.len (by assumption)).mono ?_; rintro e w1 ⟨rfl, rfl⟩) | (go_at_call 23; refine (TailS.all (by assumption) (by have := HLN.out; omega)).mono ?_; rintro e w1 ⟨q1, j1, rfl, hs1, hbL⟩; have XS := Lib.hid hs1; clear hs1) | (go_at_call 22; refine (TailS.same XS.out (by assumption)).mono ?_; rintro e w1 ⟨rfl, hbL⟩)))
                all_goals
                  have CT := Lib.hid (show TailS w pa9 pb L9 m qT jT w1 by assumption)
                  clear hbL
                  go_wp2
                  go_roundw
                  case measure => simp [intOf]; omega
                  case rel => exact ⟨k + 1, pa9, L9, by omega, rfl, by go_num, CT.out.2.1, HLN.out, CT.out.2.2.2⟩
          · have n2 : (100 : Int) < (ll.length : Int) := by omega
            have DX := Lib.hid (Ba HB.out (.cells #[.int .i64 kd, .int .i64 ix, .int .i64 xx, .slice p3 ll.length c3] 32))
            go_wp2
            go_ret
            exact ⟨rfl, DX.out⟩
        · go_wp2
          go_ret
          exact ⟨rfl, HB.out⟩
  · have n1 : (100 : Int) < (l.length : Int) := by omega
    clear hbig
    go_enter Tryd.func3, Tryd.ntmps3
    go_wp2_with fail
    refine (alive_any w).mono ?_
    rintro e w1 ⟨rfl, hb1⟩
    go_wp2
    go_ret
    exact ⟨rfl, hb1⟩
end Go.Proofs.YtfoagdnbegpjeaaDoor
