/-
  ColumnFull, walked.
-/
import Derived.Test.YtfoagdnbegpjeaaDoorAl5
import Derived.Test.YtfoagdnbegpjeaaDoorCB
import Derived.Deep.OwnRows
namespace Go.Proofs.YtfoagdnbegpjeaaDoor
set_option linter.unusedSimpArgs false
set_option linter.unusedVariables false
open Go.RowKit Go.Sort Go.Lib Go.Shelf

/-- make([]byte, j). -/
theorem makeB (j : Nat) (hj : j ≤ 1000) : ∃ Z : Array Value, Z.toList = flat encB (List.replicate j (0 : Int)) ∧ ∀ W : World, (Instr.makeSlice 62 (.int .i64 (j : Int)) (.int .i64 (j : Int))).run Tryd.prog W = .ok (.slice (some ⟨W.heap.size, 0, none⟩) j j) (W.alloc (.cells Z 5)) := by
  obtain ⟨i, hi, hz1, hs1, hb1⟩ := apB.hi
  refine ⟨madeCells #[.int .u8 0] j, ?_, fun W => ?_⟩
  · rw [toList_madeCells_one, flat1 cB, List.map_replicate]
  · exact Go.run_make_row 62 5 i (.int .u8 0) apB.ht hi hz1 hs1 rfl .i64 .i64 j (by rw [hb1]; omega) (by omega) W
/-- A column of bytes of the call's own. -/
abbrev ColXB (base : Nat) (w : World) (pa : Nat) (L : List Int) (m : Int) : Prop := ColX encB 5 1 73 base w pa L m

set_option maxHeartbeats 4000000 in
set_option maxRecDepth 100000 in
theorem full_walk (m0 : Int) (fl : List Int) (v : Value) (w : World) (hv : Sl encI w v fl) (t : TypeId) (ev : Value) (hF : w.cell? ⟨1, 0, none⟩ = some (.iface t ev)) : Calls Tryd.prog 5 #[.int .i64 m0, v] w fun e w' => e = .returned (.bool true) ∧ RowKit.Below w.heap.size w w' := by
  obtain ⟨p0, c0, rfl, v1, v2, v3⟩ := hv
  unfold maxLen at v2
  have HV := Lib.hid v3
  have HF := Lib.hid hF
  clear v3 hF
  go_enter Tryd.func5, Tryd.ntmps5
  go_wp2_with fail
  refine (alive_any w).mono ?_
  rintro e w1 ⟨rfl, hb1⟩
  have B1 := Lib.hid hb1
  clear hb1
  go_wp2_with fail
  obtain ⟨m, hm, he⟩ := idx_any m0 60 (by omega) (by omega)
  rw [show ((60 : Nat) : Int) = 60 from rfl] at he
  simp only [he]
  clear he
  have hmx : max (m : Int) 0 = (m : Int) := by omega
  have C1 := Lib.hid (newB_call m w1)
  rw [hmx] at C1
  clear hmx
  refine C1.out.mono ?_
  rintro e w2 ⟨pa, rfl, hp2, hb2⟩
  have B2 := Lib.hid (B1.out.trans (hb2.mono B1.out.size))
  have X2 := Lib.hid (ColX.new (base := w.heap.size) hp2 B1.out.size hb2.size)
  clear hp2 hb2
  go_wp2_with fail
  go_loopw [6, 20] (fun h i wr => ∃ (k : Nat) (L : List Int), k ≤ fl.length ∧ h = .int .i64 L.length ∧ i = .int .i64 k ∧ ColXB w.heap.size wr pa L m ∧ L.length ≤ m ∧ RowKit.Below w.heap.size w wr) (fun _ i _ => fl.length - (intOf i).toNat)
  case atStart => exact ⟨0, [], Nat.zero_le _, rfl, rfl, X2.out, Nat.zero_le _, B2.out⟩
  case round =>
    obtain ⟨k, L, hk, rfl, rfl, hx, hlm, hb⟩ := hrel
    have HX := Lib.hid hx
    have HB := Lib.hid hb
    clear hx hb X2
    by_cases hkn : k < fl.length
    · obtain ⟨g, o, rfl, hg, cV⟩ := HV.out (by omega)
      have d1 := Bc HB.out hg (atI cV hkn)
      clear cV
      generalize fl[k]! = n at d1
      by_cases h50 : (50 : Int) < (k : Int)
      · go_wp2
        go_ret
        exact ⟨rfl, HB.out⟩
      · obtain ⟨j, hj, he⟩ := idx_any n 30 (by omega) (by omega)
        rw [show ((30 : Nat) : Int) = 30 from rfl] at he
        obtain ⟨Z, hZ, hmk⟩ := makeB j (by omega)
        have HZ := Lib.hid hZ
        have S3 := Lib.hid (sl_lit (enc := encB) (w := wr) (cs := Z) (t := 5) (b := wr.heap.size) (List.replicate j (0 : Int)) rfl hZ (by unfold maxLen; simp; omega))
        rw [List.length_replicate] at S3
        have BZ := Lib.hid (Ba (Below.refl _ wr) (.cells Z 5))
        have X3 := Lib.hid (HX.out.below BZ.out)
        have B3 := Lib.hid (Ba HB.out (.cells Z 5))
        clear hZ
        by_cases hfit : (L.length : Int) + (j : Int) ≤ (m : Int)
        · have hnf : ¬ ((m : Int) - L.length < ((List.replicate j (0 : Int)).length : Int)) := by rw [List.length_replicate]; omega
          have PU := Lib.hid (X3.out.ask (fun M h => pushB_yes h (List.replicate j 0) _ S3.out (by omega) (by omega) hnf (by rw [List.length_replicate]; omega)))
          have hll : (L ++ List.replicate j (0 : Int)).length = L.length + j := by simp
          have HLL := Lib.hid hll
          clear hnf hll
          go_wp2_with fail
          refine PU.out.mono ?_
          rintro e w4 ⟨rfl, hx4, hk4⟩
          have X4 := Lib.hid hx4
          have B4 := Lib.hid (B3.out.trans (hk4.below B3.out.size))
          have LN := Lib.hid (lenB_call X4.out.at.choose_spec)
          rw [HLL.out] at LN
          have hlc : ((L.length + j : Nat) : Int) = (L.length : Int) + (j : Int) := by omega
          rw [hlc] at LN
          clear hx4 hk4 hlc
          go_wp2_with fail
          refine LN.out.mono ?_
          rintro e w5 ⟨rfl, rfl⟩
          go_wp2
          go_roundw
          case measure => simp [intOf]; omega
          case rel => exact ⟨k + 1, _, by omega, by rw [HLL.out]; go_num, by go_num, X4.out, by rw [HLL.out]; omega, B4.out⟩
        · have hnf : (m : Int) - L.length < ((List.replicate j (0 : Int)).length : Int) := by rw [List.length_replicate]; omega
          have PU := Lib.hid (pushB_no X3.out.at.choose_spec (List.replicate j 0) _ S3.out (by omega) (by omega) hnf t ev (Bc B3.out (cell_lt HF.out) HF.out))
          clear hnf
          go_wp2_with fail
          refine PU.out.mono ?_
          rintro e w4 ⟨rfl, hb4⟩
          have X4 := Lib.hid (X3.out.below hb4)
          have B4 := Lib.hid (B3.out.trans (hb4.mono B3.out.size))
          have LN := Lib.hid (lenB_call X4.out.at.choose_spec)
          clear hb4
          go_wp2_with fail
          refine LN.out.mono ?_
          rintro e w5 ⟨rfl, rfl⟩
          go_wp2
          go_roundw
          case measure => simp [intOf]; omega
          case rel => exact ⟨k + 1, L, by omega, rfl, by go_num, X4.out, hlm, B4.out⟩
    · go_wp2
      go_ret
      exact ⟨rfl, HB.out⟩
end Go.Proofs.YtfoagdnbegpjeaaDoor
