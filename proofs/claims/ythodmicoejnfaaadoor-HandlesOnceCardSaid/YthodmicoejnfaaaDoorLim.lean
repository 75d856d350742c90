/-
  HandlesLimits, walked.
-/
import Derived.Test.YthodmicoejnfaaaDoorAl4
import Derived.Test.YthodmicoejnfaaaDoorLp
import Derived.Test.YthodmicoejnfaaaDoorErrK
import Derived.Test.YthodmicoejnfaaaDoorRh
namespace Go.Proofs.YthodmicoejnfaaaDoor
set_option linter.unusedSimpArgs false
set_option linter.unusedVariables false
open Go.RowKit Go.Sort Go.Lib Go.Shelf

theorem errFull_at {W : World} {A : Nat → Addr} (h : Errs W A) : W.cell? ⟨2, 0, none⟩ = some (.iface 91 (.pointer (some (A 1)))) := h.cell 1 (by omega)
theorem errNone_at {W : World} {A : Nat → Addr} (h : Errs W A) : W.cell? ⟨3, 0, none⟩ = some (.iface 91 (.pointer (some (A 2)))) := h.cell 2 (by omega)
theorem errForm_at {W : World} {A : Nat → Addr} (h : Errs W A) : W.cell? ⟨0, 0, none⟩ = some (.iface 91 (.pointer (some (A 6)))) := h.cell 6 (by omega)

set_option maxHeartbeats 4000000 in
set_option maxRecDepth 100000 in
theorem limits_walk (fl : List Int) (v : Value) (w : World) (hv : Sl encI w v fl) (A : Nat → Addr) (hE : Errs w A) : Calls Tryd.prog 6 #[v] w fun e w' => e = .returned (.bool true) ∧ RowKit.Below w.heap.size w w' := by
  obtain ⟨p0, c0, rfl, v1, v2, v3⟩ := hv
  unfold maxLen at v2
  have HV := Lib.hid v3
  have HE := Lib.hid hE
  clear v3 hE
  by_cases hbig : fl.length ≤ 300
  · have hb : ¬ (300 : Int) < (fl.length : Int) := by omega
    go_enter Tryd.func6, Tryd.ntmps6
    go_wp2_with fail
    refine (alive_any w).mono ?_
    rintro e w1 ⟨rfl, hb1⟩
    have B1 := Lib.hid hb1
    clear hb1
    go_wp2_with fail
    refine (newX w.heap.size NoX w1 B1.out.size (noX w1)).mono ?_
    rintro e w2 ⟨pa, rfl, hp2, hb2⟩
    have B2 := Lib.hid (B1.out.trans (hb2.mono B1.out.size))
    have P2 := Lib.hid hp2
    clear hp2 hb2
    go_wp2_with fail
    go_loopw [4, 21] (fun v i wr => ∃ k : Nat, k ≤ 128 ∧ i = .int .i64 k ∧ PoolX 67 w.heap.size NoX wr pa (ones k) [] ∧ wr.ownsRow w.heap.size 40 2 v (hdsN (ones k) k).length (flat encH (hdsN (ones k) k)) ∧ RowKit.Below w.heap.size w wr) (fun _ i _ => 128 - (intOf i).toNat)
    case atStart => exact ⟨0, by omega, rfl, P2.out.below (Ba (Below.refl _ _) _), World.ownsRow_lit w2 #[] 0 B2.out.size (Nat.zero_le _) rfl, Ba B2.out _⟩
    case round =>
      obtain ⟨k, hk, rfl, hp, hr, hb⟩ := hrel
      have HP := Lib.hid hp
      have HR := Lib.hid hr
      have HB := Lib.hid hb
      clear hp hr hb
      by_cases hk128 : k < 128
      · have HT := Lib.hid (takeX HP.out (right_ones k hk) (ones_take k hk128))
        go_wp2_with fail
        refine HT.out.mono ?_
        rintro e w3 ⟨rfl, hp3, hk3⟩
        have B3 := Lib.hid (hk3.below HB.out.size)
        have R3 := Lib.hid (hk3.row HR.out (by decide))
        have B4 := Lib.hid (Ba (Ba (Below.refl _ w3) (.cells #[.int .i64 k, .int .i64 1] 40)) (.cells #[.int .i64 k, .int .i64 1] 40))
        have P4 := Lib.hid (hp3.below B4.out)
        have R4 := Lib.hid (row_below R3.out B4.out)
        have S4 := Lib.hid (sl_lit (enc := encH) (w := w3.alloc (.cells #[.int .i64 k, .int .i64 1] 40)) (cs := #[.int .i64 k, .int .i64 1]) (t := 40) (b := w3.heap.size + 1) [((k : Int), 1)] (by simp) rfl (by unfold maxLen; simp))
        have BW := Lib.hid (HB.out.trans (B3.out.trans (B4.out.mono (Nat.le_trans HB.out.size hk3.size))))
        have Z4 := Lib.hid (show w.heap.size ≤ ((w3.alloc (.cells #[.int .i64 k, .int .i64 1] 40)).alloc (.cells #[.int .i64 k, .int .i64 1] 40)).heap.size from BW.out.size)
        have hl := hdsN_len (ones k) k
        have HL := Lib.hid hl
        clear hp3 hk3 hl
        go_wp2_with (at_builtin; refine wpl_app2 apH rfl _ _ rfl w.heap.size (by rfl) (by rfl) R4.out rfl S4.out (by rw [HL.out]; simp; omega) Z4.out ?_; intro v5 w5 hown5 hgrow5 hat5 _; have P5 := Lib.hid (P4.out.grown R4.out (by decide) hgrow5); have B5 := Lib.hid (grownB BW.out R4.out hgrow5); have O5 := Lib.hid hown5; clear hown5 hgrow5 hat5)
        go_roundw
        case measure => simp [intOf]; omega
        case rel =>
          refine ⟨k + 1, by omega, by go_num, P5.out, ?_, B5.out⟩
          have e : hdsN (ones (k + 1)) (k + 1) = hdsN (ones k) k ++ [((k : Int), 1)] := by
            rw [hdsN_succ, ones_get (k + 1) k (by omega)]
            congr 1
            exact hdsN_congr fun j hj => by rw [ones_get (k + 1) j (by omega), ones_get k j hj]
          rw [e]
          exact O5.out
      · have hk' : k = 128 := by omega
        subst hk'
        have hl := hdsN_len (ones 128) 128
        have hr1 := HR.out
        rw [hl] at hr1
        obtain ⟨p4, cap, rfl, q1, q2, q3⟩ := row_val hr1
        obtain ⟨g, rfl, hg, _⟩ := q3 (by omega)
        unfold maxLen at q2
        have HR1 := Lib.hid hr1
        clear hl hr1 q3 HR
        go_wp2
        rw [show ((128 : Nat) : Int) = 128 from rfl]
        obtain ⟨wq, rfl⟩ : ∃ wq : World, wq = wr := ⟨_, rfl⟩
        go_loopw [37] (fun i wr => ∃ (k : Nat) (S : List Slt), k ≤ fl.length ∧ i = .int .i64 k ∧ AllL (k + 1) S ∧ PoolX 67 w.heap.size NoX wr pa S [] ∧ wr.ownsRow w.heap.size 40 2 (.slice (some ⟨g, 0, none⟩) 128 cap) 128 (flat encH (hdsN S 128)) ∧ RowKit.Below w.heap.size w wr) (fun i _ => fl.length - (intOf i).toNat)
        case atStart => exact ⟨0, ones 128, Nat.zero_le _, rfl, AllL.ones, HP.out, HR1.out, HB.out⟩
        case round =>
          obtain ⟨k, S, hk2, rfl, ha, hp, hr, hb⟩ := hrel
          have HA := Lib.hid ha
          have HP2 := Lib.hid hp
          have HR2 := Lib.hid hr
          have HB2 := Lib.hid hb
          clear ha hp hr hb HP HR1 HB
          by_cases hkn : k < fl.length
          · obtain ⟨gf, of, rfl, hgf, cF⟩ := HV.out (by omega)
            have d1 := Bc HB2.out hgf (atI cF hkn)
            clear cF
            generalize fl[k]! = n at d1
            go_wp2_with fail
            obtain ⟨m, hm, he⟩ := idx_any n 128 (by omega) (by omega)
            rw [show ((128 : Nat) : Int) = 128 from rfl] at he
            simp only [he]
            clear he
            refine (takeX_none HP2.out HA.out.full _ _ (errFull_at (HE.out.below HB2.out))).mono ?_
            rintro e w3 ⟨rfl, hb3⟩
            have B3 := Lib.hid (HB2.out.trans (Ba hb3 (.cells #[.int .i64 0, .int .i64 0] 40) |>.mono HB2.out.size))
            have P3 := Lib.hid (HP2.out.below (Ba hb3 (.cells #[.int .i64 0, .int .i64 0] 40)))
            have R3 := Lib.hid (row_below HR2.out (Ba hb3 (.cells #[.int .i64 0, .int .i64 0] 40)))
            have E3 := Lib.hid (num_full (HE.out.below B3.out))
            clear hb3
            go_wp2_with fail
            refine E3.out.mono ?_
            rintro e w4 ⟨rfl, hb4⟩
            have B4 := Lib.hid (B3.out.trans (hb4.mono B3.out.size))
            have P4 := Lib.hid (P3.out.below hb4)
            have R4 := Lib.hid (row_below R3.out hb4)
            clear hb4 P3 R3 E3
            have hln := hdsN_len S 128
            obtain ⟨x0, x1⟩ := row_cellsH R4.out m (by omega)
            rw [hdsN_get S 128 m hm] at x0 x1
            dsimp only at x0 x1
            have hf := HA.out.free (by omega) hm
            have hgen := HA.out.gen m hm
            have HF := Lib.hid (freeX P4.out (HA.out.right (by omega)) m S[m]!.1 (HA.out.lives hm))
            rw [hf.1, hf.2] at HF
            have RF := right_free (HA.out.right (by omega)) (HA.out.lives hm)
            rw [hf.1, hf.2] at RF
            have HN := Lib.hid (HA.out.next hm)
            have HG := Lib.hid (HA.out.again hm (S[m]!.1 + 1))
            have HSet := Lib.hid (hdsN_set S 128 m (by rw [HA.out.len]; exact hm) hm (S[m]!.1 + 1) true)
            have HR4 := Lib.hid RF
            have HLn := Lib.hid hln
            have HGet := Lib.hid (hdsN_get S 128 m hm)
            clear hf RF hln
            obtain ⟨hgen1, hgen2⟩ := hgen
            generalize S[m]!.1 = gen at *
            go_wp2_with fail
            refine HF.out.mono ?_
            rintro e w5 ⟨rfl, hp5, hk5⟩
            have B5 := Lib.hid (B4.out.trans (hk5.below B4.out.size))
            have P5 := Lib.hid hp5
            have R5 := Lib.hid (hk5.row R4.out (by decide))
            clear hp5 hk5 x0 x1
            go_wp2_with fail
            refine (takeX P5.out HR4.out HG.out).mono ?_
            rintro e w6 ⟨rfl, hp6, hk6⟩
            have B6 := Lib.hid (Ba (B5.out.trans (hk6.below B5.out.size)) (.cells #[.int .i64 m, .int .i64 (gen + 1)] 40))
            have P6 := Lib.hid (hp6.below (Ba (Below.refl _ w6) (.cells #[.int .i64 m, .int .i64 (gen + 1)] 40)))
            have R6 := Lib.hid (row_below (hk6.row R5.out (by decide)) (Ba (Below.refl _ w6) (.cells #[.int .i64 m, .int .i64 (gen + 1)] 40)))
            clear hp6 hk6
            obtain ⟨x0, x1⟩ := row_cellsH R6.out m (by rw [HLn.out]; exact hm)
            rw [HGet.out] at x0 x1
            dsimp only at x0 x1
            have hwr : IntKind.i64.wrap (gen + 1) = gen + 1 := IntWalk.i64_in _ (by omega)
            have f0 := R6.out.frozenAt (m * 2)
            have f1 := R6.out.frozenAt (m * 2 + 1)
            have PZ := Lib.hid (P6.out.setH (by decide) R6.out m (.int .i64 m) (.int .i64 (gen + 1)))
            have RZ := rowH_set R6.out (by rw [HLn.out]; exact hm) m (gen + 1)
            rw [HSet.out] at RZ
            have HRZ := Lib.hid RZ
            have hgb := Lib.hid (R6.out.lt g rfl).1
            clear RZ
            go_wp2_with fail
            go_quiet (fail)
            go_wp2_with fail
            go_roundw
            case measure => simp [intOf]; omega
            case rel => exact ⟨k + 1, S.set m (gen + 1, true), by omega, by go_num, by have := HN.out; push_cast; exact this, PZ.out.below (Bn (Below.refl _ _)), row_below HRZ.out (Bn (Below.refl _ _)), Bn (Bs (p := ⟨g, m * 2 + 1, none⟩) (Bs (p := ⟨g, m * 2, none⟩) B6.out hgb.out _) hgb.out _)⟩
          · have HC1 := Lib.hid HA.out.count
            have hlS := HA.out.len
            obtain ⟨M, hM⟩ := HP2.out.at
            have C1 := count_call hM (by omega)
            rw [HC1.out] at C1
            have HC := Lib.hid C1
            have HL := Lib.hid (fun W (h : RowKit.Below wr.heap.size wr W) => list_call (hM.below h) (by omega))
            clear C1 hM hlS
            go_wp2_with fail
            refine HC.out.mono ?_
            rintro e w3 ⟨rfl, hb3⟩
            have B3 := Lib.hid hb3
            clear hb3
            go_wp2_with fail
            refine (HL.out _ B3.out).mono ?_
            rintro e w4 ⟨v4, rfl, ho4, hb4⟩
            rw [HC1.out] at ho4
            obtain ⟨p4, c4, rfl, _, _, _⟩ := row_val ho4
            have B4 := Lib.hid hb4
            clear ho4 hb4
            go_wp2
            go_ret
            exact ⟨rfl, HB2.out.trans ((B3.out.trans (B4.out.mono B3.out.size)).mono HB2.out.size)⟩
  · have hb : (300 : Int) < (fl.length : Int) := by omega
    go_enter Tryd.func6, Tryd.ntmps6
    go_wp2_with fail
    refine (alive_any w).mono ?_
    rintro e w1 ⟨rfl, hb1⟩
    go_wp2_with fail
    go_ret
    exact ⟨rfl, hb1⟩
end Go.Proofs.YthodmicoejnfaaaDoor
