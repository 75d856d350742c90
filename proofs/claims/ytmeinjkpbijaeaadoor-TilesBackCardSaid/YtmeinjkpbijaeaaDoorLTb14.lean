/-
  TilesBack: the walk.
-/
import Derived.Test.YtmeinjkpbijaeaaDoorEq14
import Derived.Test.YtmeinjkpbijaeaaDoorBl14
namespace Go.Proofs.YtmeinjkpbijaeaaDoor
set_option linter.unusedSimpArgs false
set_option linter.unusedVariables false
open Go.RowKit Go.Sort Go.Lib Go.Shelf

theorem standB_take {g : Gd} {c : List Int} {l : List Bx4} {k : Nat} (hk : k < l.length) (h : Stand g c (l.take k)) : Stand g (upd 1 c (und g l[k]!)) (l.take (k + 1)) := (h.put l[k]!).congr (covN_take g hk)
theorem standB_bd {g : Gd} {c : List Int} {l : List Bx4} (h : Stand g c l) (hl : l.length ≤ 1000) : Bdd c 1000 := h.bd.mono (by omega)
theorem standB_drop {g : Gd} {c : List Int} {l : List Bx4} {j : Nat} (hj : j < l.length) (h : Stand g c (l.drop j)) : anyL c (und g l[j]!) = false ∧ Stand g (upd (-1) c (und g l[j]!)) (l.drop (j + 1)) := by
  rw [drop_step hj] at h
  exact h.drop
set_option maxHeartbeats 8000000 in
set_option maxRecDepth 100000 in
theorem tilesBack_walk (g : Gd) (l : List Bx4) (v : Value) (x : Int) (w : World) (aF : Addr) (hs : Sl encX w v l) (hE : w.cell? ⟨0, 0, none⟩ = some (.iface 101 (.pointer (some aF)))) : Calls Tryd.prog 5 #[grV g, v, .int .i64 x] w fun e w' => e = .returned (.bool true) ∧ RowKit.Below w.heap.size w w' := by
  have AL := Lib.hid (fun W' => alive_call W')
  obtain ⟨qv, capv, rfl, v1, v2, v3⟩ := hs
  unfold maxLen at v2
  have HV := Lib.hid v3
  have HE := Lib.hid hE
  clear hE v3
  cases hg : grOk g
  · have NC := Lib.hid (fun W' (hb : RowKit.Below w.heap.size w W') => new_form g W' (101, .pointer (some aF)) (Bc hb (cell_lt HE.out) HE.out) hg)
    obtain ⟨W, H, S, X, Y⟩ := g
    have RC := Lib.hid (fun W' => tright_any W H S X Y W')
    rw [hg] at RC
    clear hg
    by_cases hl : l.length > 40
    · have hz : (l.length : Int) > 40 := by omega
      go_enter Tryd.func5, Tryd.ntmps5
      go_wp2_with fail
      refine (AL.out _).mono ?_
      rintro e w1 ⟨rfl, hb1⟩
      have k1 := blk_below (heap_alloc_new w (.cells #[.int .i64 W, .int .i64 H, .int .i64 S, .int .i64 X, .int .i64 Y] 23)) hb1
      obtain ⟨x1, x2, x3, x4, x5⟩ := cells5 k1
      have hl1 := cell_lt x1
      have B1 := Lib.hid (by exact (by repeat (first | with_reducible exact Below.refl _ _ | with_reducible assumption | with_reducible apply Ba | with_reducible apply Bd | with_reducible apply Bn | with_reducible apply Bg | (with_reducible refine Bs ?_ (by first | (simp; done) | (simp; omega)) _) | (with_reducible refine Bt ?_ (by assumption)) | (with_reducible refine Bt ?_ (Gr.below (by assumption))))) : RowKit.Below w.heap.size w w1)
      clear hb1 k1
      go_wp2_with fail
      refine (NC.out _ B1.out).mono ?_
      rintro e w2 ⟨rfl, hb2⟩
      have B2 := Lib.hid (Bt B1.out hb2)
      clear hb2
      go_wp2
      go_ret
      exact ⟨rfl, B2.out⟩
    · have hz : ¬ (l.length : Int) > 40 := by omega
      go_enter Tryd.func5, Tryd.ntmps5
      go_wp2_with fail
      refine (AL.out _).mono ?_
      rintro e w1 ⟨rfl, hb1⟩
      have k1 := blk_below (heap_alloc_new w (.cells #[.int .i64 W, .int .i64 H, .int .i64 S, .int .i64 X, .int .i64 Y] 23)) hb1
      have K1 := Lib.hid k1
      obtain ⟨x1, x2, x3, x4, x5⟩ := cells5 k1
      have hl1 := cell_lt x1
      have B1 := Lib.hid (by exact (by repeat (first | with_reducible exact Below.refl _ _ | with_reducible assumption | with_reducible apply Ba | with_reducible apply Bd | with_reducible apply Bn | with_reducible apply Bg | (with_reducible refine Bs ?_ (by first | (simp; done) | (simp; omega)) _) | (with_reducible refine Bt ?_ (by assumption)) | (with_reducible refine Bt ?_ (Gr.below (by assumption))))) : RowKit.Below w.heap.size w w1)
      clear hb1 k1
      go_wp2_with fail
      refine (NC.out _ B1.out).mono ?_
      rintro e w2 ⟨rfl, hb2⟩
      have B2 := Lib.hid (Bt B1.out hb2)
      have k2 := blk_below K1.out hb2
      clear hb2 x1 x2 x3 x4 x5
      obtain ⟨x1, x2, x3, x4, x5⟩ := cells5 k2
      have hl2 := cell_lt x1
      clear k2
      go_wp2_with fail
      refine (RC.out _).mono ?_
      rintro e w3 ⟨rfl, hb3⟩
      have B3 := Lib.hid (Bt B2.out hb3)
      clear hb3
      go_wp2
      go_ret
      exact ⟨rfl, B3.out⟩
  · have NC := Lib.hid (fun W' => new_call g W' hg)
    have S0 := Lib.hid (Stand.none g)
    have ST := Lib.hid (fun c k hk h => @standB_take g c l k hk h)
    obtain ⟨W, H, S, X, Y⟩ := g
    clear hg
    obtain ⟨W0, hW0⟩ : ∃ W0, W0 = w.alloc (.cells #[.int .i64 W, .int .i64 H, .int .i64 S, .int .i64 X, .int .i64 Y] 23) := ⟨_, rfl⟩
    have B0 : Hid (RowKit.Below w.heap.size w W0) := Lib.hid (by rw [hW0]; exact (by repeat (first | with_reducible exact Below.refl _ _ | with_reducible assumption | with_reducible apply Ba | with_reducible apply Bd | with_reducible apply Bn | with_reducible apply Bg | (with_reducible refine Bs ?_ (by first | (simp; done) | (simp; omega)) _) | (with_reducible refine Bt ?_ (by assumption)) | (with_reducible refine Bt ?_ (Gr.below (by assumption))))))
    have G0 : Hid (GrAt W0 w.heap.size ⟨W, H, S, X, Y⟩) := Lib.hid (by rw [hW0]; exact heap_alloc_new w _)
    have HW0 := Lib.hid hW0
    clear hW0
    go_enter Tryd.func5, Tryd.ntmps5
    go_wp2_with fail
    rw [← HW0.out]
    refine (AL.out _).mono ?_
    rintro e w1 ⟨rfl, hb1⟩
    have B1 := Lib.hid (Bt B0.out hb1)
    have G1 := Lib.hid (G0.out.below hb1)
    obtain ⟨x1, x2, x3, x4, x5⟩ := G1.out.cells
    have hl1 := G1.out.lt
    clear hb1
    go_wp2_with fail
    refine (NC.out _).mono ?_
    rintro e w2 ⟨pa, rfl, hm2, hb2⟩
    unfold ptP
    have B2 := Lib.hid (Bt B1.out hb2)
    obtain ⟨M, hMd⟩ : ∃ M, M = Fresh w1 w2 := ⟨_, rfl⟩
    rw [← hMd] at hm2
    have HM : Hid (∀ b, M b → w.heap.size + 1 ≤ b ∧ b < w2.heap.size) := Lib.hid (fun b e => by rw [hMd] at e; exact e.elim (fun e => e.elim) (fun e => ⟨Nat.le_trans hl1 e.1, e.2⟩))
    have HM2 := Lib.hid hm2
    clear hb2 hMd hm2 x1 x2 x3 x4 x5 hl1
    by_cases hl : l.length > 40
    · have hz : (l.length : Int) > 40 := by omega
      go_wp2
      go_ret
      exact ⟨rfl, B2.out⟩
    · have hz : ¬ (l.length : Int) > 40 := by omega
      go_wp2_with fail
      go_loopw [38] (fun i wr => ∃ (k : Nat) (c : List Int), k ≤ l.length ∧ i = .int .i64 k ∧ Hid (MpAt 74 wr M pa ⟨W, H, S, X, Y⟩ c) ∧ Hid (Stand ⟨W, H, S, X, Y⟩ c (l.take k)) ∧ Hid (Tch M w2 wr)) (fun i _ => l.length - (intOf i).toNat)
      case atStart => exact ⟨0, _, Nat.zero_le _, rfl, HM2, S0, Lib.hid (Tch.refl _ _)⟩
      case round =>
        obtain ⟨k, c, hk, rfl, hm, hst, ht⟩ := hrel
        have hwr := ht.out.size
        by_cases hkn : k < l.length
        · have hkz : (k : Int) < (l.length : Int) := by omega
          obtain ⟨gb, ob, rfl, hg1, hg2⟩ := HV.out (by omega)
          obtain ⟨z1, z2, z3, z4⟩ := atX hg2 hkn
          have tcell := fun {o : Nat} {u : Value} (h : w.cell? ⟨gb, o, none⟩ = some u) => ht.out.cell (Bl B2.out hg1) (fun e => by have := (HM.out _ e).1; omega) (Bc B2.out hg1 h)
          replace z1 := tcell z1
          replace z2 := tcell z2
          replace z3 := tcell z3
          replace z4 := tcell z4
          have hgw := cell_lt z1
          clear tcell
          have hS9 := ST.out c k hkn hst.out
          have hB9 := Lib.hid (standB_bd hst.out (by rw [List.length_take]; omega))
          generalize l[k]! = b at *
          obtain ⟨b1, b2, b3, b4⟩ := b
          dsimp only at z1 z2 z3 z4
          have PCb := Lib.hid (fun W' hm' hM' => put_call (w := W') (pa := pa) (M := M) (g := ⟨W, H, S, X, Y⟩) (c := c) hm' hM' hB9.out (b1, b2, b3, b4))
          have HS9 := Lib.hid hS9
          have M3 := Lib.hid (hm.out.below (Ba (Below.refl _ wr) (.cells #[.int .i64 b1, .int .i64 b2, .int .i64 b3, .int .i64 b4] 37)))
          have T3 := Lib.hid (ht.out.alloc (.cells #[.int .i64 b1, .int .i64 b2, .int .i64 b3, .int .i64 b4] 37))
          clear hS9 hg2
          go_wp2_with fail
          refine (PCb.out _ M3.out (fun b e => by have := (HM.out _ e).2; have := T3.out.size; omega)).mono ?_
          rintro e w5 ⟨v5, rfl, -, hm5, ht5⟩
          have M5 := Lib.hid hm5
          have T5 := Lib.hid (T3.out.more ht5)
          clear hm5 ht5 z1 z2 z3 z4
          go_wp2
          go_roundw
          case measure => simp only [intOf]; omega
          case rel => exact ⟨k + 1, _, by omega, by go_num, M5, HS9, T5⟩
        · obtain rfl : k = l.length := by omega
          rw [List.take_length] at hst
          have BT := Lib.hid (B2.out.trans (Tch.below ht.out (fun b e => show w.heap.size ≤ b by have := (HM.out _ e).1; omega) B2.out.size))
          have HMs : Hid (∀ b, M b → w.heap.size + 1 ≤ b ∧ b < wr.heap.size) := Lib.hid (fun b e => ⟨(HM.out b e).1, Nat.lt_of_lt_of_le (HM.out b e).2 hwr⟩)
          have HT0 := Lib.hid ht.out.size
          clear hwr
          by_cases h0 : l.length = 0
          · have hst0 : Hid (blkL c = []) := Lib.hid (by
              obtain rfl : l = [] := List.eq_nil_of_length_eq_zero h0
              exact hst.out.free)
            have MB := Lib.hid (mblk_call hm.out)
            rw [hst0.out] at MB
            have hzz : ¬ (0 : Int) < (l.length : Int) := by omega
            rw [h0] at *
            go_wp2_with fail
            refine wp_loop_rounds 1 ?_
            rw [rounds_succ]
            go_wp2_with fail
            refine MB.out.mono ?_
            rintro e w7 ⟨v7, rfl, ho7, hb7⟩
            obtain ⟨q7, cap7, rfl, -, -, -⟩ := row_val ho7
            have B7 := Lib.hid hb7
            clear ho7 hb7
            go_wp2
            go_ret
            exact ⟨rfl, BT.out.trans (B7.out.mono (by have := B2.out.size; have := HT0.out; omega))⟩
          · obtain ⟨m, hm9, he⟩ := idx_any x l.length (by omega) (by omega)
            have HRL := Lib.hid (rotB_len l m)
            have HRG := Lib.hid (fun i hi => rotB_get (B := l) (k := m) (i := i) hm9 hi)
            have hst1 : Hid (Stand ⟨W, H, S, X, Y⟩ c ((rotB l m).drop 0)) := Lib.hid (hst.out.congr (fun i => (rotB_cov _ l m i).symm))
            have DR := Lib.hid (fun c j hj h => @standB_drop ⟨W, H, S, X, Y⟩ c (rotB l m) j hj h)
            have hRn : Hid ((rotB l m).drop l.length = []) := Lib.hid (by rw [List.drop_eq_nil_iff, HRL.out]; exact Nat.le_refl _)
            have HBD := Lib.hid (fun c j (h : Stand ⟨W, H, S, X, Y⟩ c ((rotB l m).drop j)) => standB_bd h (by rw [List.length_drop, HRL.out]; omega))
            have hz2 : ¬ (l.length : Int) = 0 := by omega
            have hz1 : ¬ l = [] := fun e => by subst e; simp at h0
            have hul : IntKind.u64.wrap (l.length : Int) = l.length := by rw [IntKind.wrap_u64]; omega
            generalize rotB l m = R at *
            generalize wr = w6 at *
            clear hst
            go_wp2_with fail
            go_loopw [48] (fun i wr => ∃ (j : Nat) (c : List Int), j ≤ l.length ∧ i = .int .i64 j ∧ Hid (MpAt 74 wr M pa ⟨W, H, S, X, Y⟩ c) ∧ Hid (Stand ⟨W, H, S, X, Y⟩ c (R.drop j)) ∧ Hid (Tch M w6 wr)) (fun i _ => l.length - (intOf i).toNat)
            case atStart => exact ⟨0, c, Nat.zero_le _, rfl, hm, hst1, Lib.hid (Tch.refl _ _)⟩
            case round =>
              obtain ⟨j, c, hj, rfl, hm, hst, ht9⟩ := hrel
              have hwr := ht9.out.size
              by_cases hjn : j < l.length
              · have hjz : (j : Int) < (l.length : Int) := by omega
                have hi9 : (j + m) % l.length < l.length := Nat.mod_lt _ (by omega)
                have hwa : wrap64 ((j : Int) + (m : Int)) = ((j + m : Nat) : Int) := by rw [IntWalk.wrap64_in _ ⟨by omega, by omega⟩]; omega
                have hmod : (((j + m : Nat) : Int)).tmod (l.length : Int) = (((j + m) % l.length : Nat) : Int) := by rw [Int.tmod_eq_emod_of_nonneg (by omega), ← Int.natCast_emod]
                have hmod2 : ((j : Int) + (m : Int)).tmod (l.length : Int) = (((j + m) % l.length : Nat) : Int) := by rw [← Int.natCast_add]; exact hmod
                obtain ⟨gb, ob, rfl, hg1, hg2⟩ := HV.out (by omega)
                obtain ⟨z1, z2, z3, z4⟩ := atX hg2 hi9
                have tcell := fun {o : Nat} {u : Value} (h : w.cell? ⟨gb, o, none⟩ = some u) => ht9.out.cell (Nat.lt_of_lt_of_le (Bl B2.out hg1) HT0.out) (fun e => by have := (HM.out _ e).1; omega) (ht.out.cell (Bl B2.out hg1) (fun e => by have := (HM.out _ e).1; omega) (Bc B2.out hg1 h))
                replace z1 := tcell z1
                replace z2 := tcell z2
                replace z3 := tcell z3
                replace z4 := tcell z4
                have hgw := cell_lt z1
                clear tcell
                obtain ⟨hd1, hd2⟩ := DR.out c j (by rw [HRL.out]; exact hjn) hst.out
                have hrg := HRG.out j hjn
                have hB9 := Lib.hid (HBD.out c j hst.out)
                rw [hrg] at hd1 hd2
                generalize hbb : l[(j + m) % l.length]! = b at *
                generalize hii : (j + m) % l.length = i9 at *
                have hiz : (i9 : Int) < (l.length : Int) := by omega
                obtain ⟨b1, b2, b3, b4⟩ := b
                dsimp only at z1 z2 z3 z4
                have DCb := Lib.hid (fun W' hm' hM' => drop_call (w := W') (pa := pa) (M := M) (g := ⟨W, H, S, X, Y⟩) (c := c) hm' hM' hB9.out (b1, b2, b3, b4) hd1)
                have HS9 := Lib.hid hd2
                clear hd1 hd2 hbb hii hrg hg2
                go_wp2_with fail
                refine (DCb.out _ hm.out (fun b e => by have := (HM.out _ e).2; have := HT0.out; omega)).mono ?_
                rintro e w7 ⟨v7, rfl, -, hm7, ht7⟩
                have M7 := Lib.hid hm7
                have T7 := Lib.hid (ht9.out.more ht7)
                clear hm7 ht7 z1 z2 z3 z4
                go_wp2
                go_roundw
                case measure => simp only [intOf]; omega
                case rel => exact ⟨j + 1, _, by omega, by go_num, M7, HS9, T7⟩
              · obtain rfl : j = l.length := by omega
                rw [hRn.out] at hst
                have hst0 : Hid (blkL c = []) := Lib.hid hst.out.free
                have MB := Lib.hid (mblk_call hm.out)
                rw [hst0.out] at MB
                have hzz : ¬ (l.length : Int) < (l.length : Int) := by omega
                have BT2 := Lib.hid (BT.out.trans (Tch.below ht9.out (fun b e => show w.heap.size ≤ b by have := (HM.out _ e).1; omega) (by have := B2.out.size; have := HT0.out; omega)))
                go_wp2_with fail
                refine MB.out.mono ?_
                rintro e w7 ⟨v7, rfl, ho7, hb7⟩
                obtain ⟨q7, cap7, rfl, -, -, -⟩ := row_val ho7
                have B7 := Lib.hid hb7
                clear ho7 hb7
                go_wp2
                go_ret
                exact ⟨rfl, BT2.out.trans (B7.out.mono (by have := B2.out.size; have := HT0.out; omega))⟩
end Go.Proofs.YtmeinjkpbijaeaaDoor
