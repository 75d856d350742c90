/-
  HandlesApart, walked.
-/
import Derived.Test.YthodmicoejnfaaaDoorApr
namespace Go.Proofs.YthodmicoejnfaaaDoor
set_option linter.unusedSimpArgs false
set_option linter.unusedVariables false
open Go.RowKit Go.Sort Go.Lib Go.Shelf

set_option maxHeartbeats 4000000 in
set_option maxRecDepth 100000 in
theorem apart_walk (la lb : List Opr) (va vb : Value) (w : World) (ha : Sl encO w va la) (hb : Sl encO w vb lb) (t : TypeId) (ev : Value) (hE : w.cell? ⟨2, 0, none⟩ = some (.iface t ev)) :
    Calls Tryd.prog 7 #[va, vb] w fun e w' => e = .returned (.bool true) ∧ RowKit.Below w.heap.size w w' := by
  have HA := Lib.hid ha
  have HB := Lib.hid hb
  have HE := Lib.hid hE
  obtain ⟨p0, c0, rfl, v1, v2, _⟩ := ha
  obtain ⟨p1, c1, rfl, v3, v4, _⟩ := hb
  unfold maxLen at v2 v4
  clear hE
  by_cases hla : la.length ≤ 60
  · by_cases hlb : lb.length ≤ 60
    · have h1 : ¬ (60 : Int) < (la.length : Int) := by omega
      have h2 : ¬ (60 : Int) < (lb.length : Int) := by omega
      go_enter Tryd.func7, Tryd.ntmps7
      go_wp2_with fail
      refine (alive_any w).mono ?_
      rintro e w1 ⟨rfl, hb1⟩
      have B1 := Lib.hid hb1
      clear hb1
      go_wp2_with fail
      refine (newX w.heap.size NoX w1 B1.out.size (noX w1)).mono ?_
      rintro e w2 ⟨pa, rfl, hp2, hb2⟩
      have B2 := Lib.hid (B1.out.trans (hb2.mono B1.out.size))
      have P2 := Lib.hid hp2
      clear hp2 hb2
      go_wp2_with fail
      refine (run_call la _ HA.out hla B2.out P2.out right_new t ev HE.out).mono ?_
      rintro e w3 ⟨S, Fr, rfl, hp3, r3, hk3⟩
      have B3 := Lib.hid (B2.out.trans (hk3.below B2.out.size))
      have P3 := Lib.hid hp3
      have R3 := Lib.hid r3
      have hl3 := r3.len
      have hf3 := r3.freeLen
      clear hp3 r3 hk3
      go_wp2_with fail
      refine (slots_call P3.out.at.choose_spec (by omega) (by omega)).mono ?_
      rintro e w4 ⟨x1, x2, rfl, ho1, ho2, hb4⟩
      obtain ⟨q1, k1, rfl, _, _, z1⟩ := row_val ho1
      have Z1 := Lib.hid z1
      clear z1
      obtain ⟨q2, k2, rfl, _, _, _⟩ := row_val ho2
      have O1 := Lib.hid ho1
      have O2 := Lib.hid ho2
      have P4 := Lib.hid (P3.out.below hb4)
      have B4 := Lib.hid (B3.out.trans (hb4.mono B3.out.size))
      clear ho1 ho2 hb4
      go_wp2_with fail
      refine (clone_call P4.out.at.choose_spec (by omega) (by omega)).mono ?_
      rintro e w5 ⟨pb, rfl, hp5, hb5⟩
      have K5 := Lib.hid hb5
      have Q5 := Lib.hid (PoolX.new (base := w4.heap.size) (X := NoX) (w0 := w4) hp5 (Nat.le_refl _) hb5.size (noX w4))
      clear hp5 hb5
      go_wp2_with fail
      refine (run_call (w0 := w4) lb _ (HB.out.below B4.out) hlb K5.out Q5.out R3.out t ev (Bc B4.out (cell_lt HE.out) HE.out)).mono ?_
      rintro e w6 ⟨S', Fr', rfl, _, _, hk6⟩
      have K6 := Lib.hid (K5.out.trans (hk6.below K5.out.size))
      have P6 := Lib.hid (P4.out.below K6.out)
      have O6 := Lib.hid (row_below O1.out K6.out)
      have O7 := Lib.hid (row_below O2.out K6.out)
      have B6 := Lib.hid (B4.out.trans (K6.out.mono B4.out.size))
      clear hk6
      go_wp2_with fail
      refine (slots_call P6.out.at.choose_spec (by omega) (by omega)).mono ?_
      rintro e w7 ⟨x3, x4, rfl, ho3, ho4, hb7⟩
      obtain ⟨q3, k3, rfl, _, _, z3⟩ := row_val ho3
      have Z3 := Lib.hid z3
      clear z3
      obtain ⟨q4, k4, rfl, _, _, _⟩ := row_val ho4
      have O3 := Lib.hid ho3
      have O4 := Lib.hid ho4
      have O8 := Lib.hid (row_below O6.out hb7)
      have O9 := Lib.hid (row_below O7.out hb7)
      have B7 := Lib.hid (B6.out.trans (hb7.mono B6.out.size))
      clear ho3 ho4 hb7
      go_wp2_with fail
      refine (sameInts_call Fr Fr _ _ w7 (row_sl lenI O9.out rfl) (row_sl lenI O4.out rfl)).mono ?_
      rintro e w8 ⟨rfl, hg8⟩
      rw [decide_eq_true (rfl : Fr = Fr)]
      have S8 := Lib.hid (row_below O8.out hg8.below)
      have S9 := Lib.hid (row_below O3.out hg8.below)
      have B8 := Lib.hid (B7.out.trans (hg8.below.mono B7.out.size))
      clear hg8
      have hS63 : S.length ≤ 9223372036854775807 := by omega
      go_wp2_with fail
      have ne1 := neS_run
      have gd1 := gdS_run
      go_loopw [55] (fun i wr => ∃ k : Nat, k ≤ S.length ∧ i = .int .i64 k ∧ RowKit.Below w8.heap.size w8 wr) (fun i _ => S.length - (intOf i).toNat)
      case atStart => exact ⟨0, Nat.zero_le _, rfl, Below.refl _ _⟩
      case round =>
        obtain ⟨k, hk, rfl, hbr⟩ := hrel
        have HBr := Lib.hid hbr
        clear hbr
        by_cases hkn : k < S.length
        · obtain ⟨g1, rfl, hg1, _⟩ := Z1.out (by omega)
          obtain ⟨g3, rfl, hg3, _⟩ := Z3.out (by omega)
          obtain ⟨y0, y1⟩ := row_cellsS (row_mono (row_below S8.out HBr.out) (Nat.zero_le _)) rfl k hkn
          obtain ⟨y2, y3⟩ := row_cellsS (row_mono (row_below S9.out HBr.out) (Nat.zero_le _)) rfl k hkn
          generalize S[k]! = x at y0 y1 y2 y3
          obtain ⟨s1, s2⟩ := x
          dsimp only at y0 y1 y2 y3
          go_wp2_with fail
          go_quiet (fail)
          go_wp2
          go_roundw
          case measure => simp [intOf]; omega
          case rel => exact ⟨k + 1, by omega, by go_num, Bn HBr.out⟩
        · go_wp2
          go_ret
          exact ⟨rfl, B8.out.trans (HBr.out.mono B8.out.size)⟩
    · have h1 : ¬ (60 : Int) < (la.length : Int) := by omega
      have h2 : (60 : Int) < (lb.length : Int) := by omega
      go_enter Tryd.func7, Tryd.ntmps7
      go_wp2_with fail
      refine (alive_any w).mono ?_
      rintro e w1 ⟨rfl, hb1⟩
      go_wp2
      go_ret
      exact ⟨rfl, hb1⟩
  · have h1 : (60 : Int) < (la.length : Int) := by omega
    go_enter Tryd.func7, Tryd.ntmps7
    go_wp2_with fail
    refine (alive_any w).mono ?_
    rintro e w1 ⟨rfl, hb1⟩
    go_wp2
    go_ret
    exact ⟨rfl, hb1⟩
end Go.Proofs.YthodmicoejnfaaaDoor
