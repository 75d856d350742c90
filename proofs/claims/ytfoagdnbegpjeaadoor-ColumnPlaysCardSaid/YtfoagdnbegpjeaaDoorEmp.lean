/-
  ColumnEmpties, walked.
-/
import Derived.Test.YtfoagdnbegpjeaaDoorAl5
import Derived.Test.YtfoagdnbegpjeaaDoorErrK
namespace Go.Proofs.YtfoagdnbegpjeaaDoor
set_option linter.unusedSimpArgs false
set_option linter.unusedVariables false
open Go.RowKit Go.Sort Go.Lib Go.Shelf

theorem errRange_at {W : World} {A : Nat → Addr} (h : Errs W A) : W.cell? ⟨0, 0, none⟩ = some (.iface 88 (.pointer (some (A 0)))) := h.cell 0 (by omega)
theorem errFull_at {W : World} {A : Nat → Addr} (h : Errs W A) : W.cell? ⟨1, 0, none⟩ = some (.iface 88 (.pointer (some (A 1)))) := h.cell 1 (by omega)
theorem take_last (l : List Int) (j : Nat) (h : j < l.length) : takeC (l.take (j + 1)) j = l.take j := by
  have e : (l.take (j + 1)).length = j + 1 := by simp; omega
  have := takeC_last (l.take (j + 1))
  rw [e, Nat.add_sub_cancel] at this
  rw [this, List.take_take, Nat.min_eq_left (Nat.le_succ j)]
theorem take_get (l : List Int) (j : Nat) (h : j < l.length) : (l.take (j + 1))[j]! = l[j]! := by
  rw [getElem!_pos _ _ (by simp; omega), getElem!_pos l j h, List.getElem_take]

set_option maxHeartbeats 2000000 in
set_option maxRecDepth 100000 in
theorem empties_walk (l : List Int) (v : Value) (w : World) (hv : Sl encI w v l) (A : Nat → Addr) (hE : Errs w A) : Calls Tryd.prog 6 #[v] w fun e w' => e = .returned (.bool true) ∧ RowKit.Below w.heap.size w w' := by
  have HSV := Lib.hid hv
  obtain ⟨p0, c0, rfl, v1, v2, v3⟩ := hv
  unfold maxLen at v2
  have HV := Lib.hid v3
  have HE := Lib.hid hE
  clear v3 hE
  by_cases hbig : l.length ≤ 100
  · have hb : ¬ (100 : Int) < (l.length : Int) := by omega
    have hmx : max (l.length : Int) 0 = (l.length : Int) := by omega
    have HM := Lib.hid hmx
    clear hmx
    go_enter Tryd.func6, Tryd.ntmps6
    go_wp2_with fail
    refine (alive_any w).mono ?_
    rintro e w1 ⟨rfl, hb1⟩
    have B1 := Lib.hid hb1
    have C1 := Lib.hid (newI_call l.length w1)
    rw [HM.out] at C1
    clear hb1
    go_wp2_with fail
    refine C1.out.mono ?_
    rintro e w2 ⟨pa, rfl, hp2, hb2⟩
    have B2 := Lib.hid (B1.out.trans (hb2.mono B1.out.size))
    have X2 := Lib.hid (ColX.new (base := w.heap.size) hp2 B1.out.size hb2.size)
    have S2 := Lib.hid (HSV.out.below B2.out)
    clear hp2 hb2
    go_wp2_with fail
    refine (X2.out.ask (fun M h => pushI_yes h l _ S2.out (by omega) (by omega) (by simp) (by simp; omega))).mono ?_
    rintro e w3 ⟨rfl, hx3, hk3⟩
    have X3 := Lib.hid hx3
    have B3 := Lib.hid (B2.out.trans (hk3.below B2.out.size))
    rw [List.nil_append] at X3
    clear hx3 hk3 X2 S2
    go_wp2_with fail
    go_loopw [4] (fun i wr => ∃ k : Nat, k ≤ l.length ∧ i = .int .i64 ((k : Int) - 1) ∧ ColXI w.heap.size wr pa (l.take k) l.length ∧ RowKit.Below w.heap.size w wr) (fun i _ => (intOf i + 1).toNat)
    case atStart => exact ⟨l.length, Nat.le_refl _, rfl, by rw [List.take_length]; exact X3.out, B3.out⟩
    case round =>
      obtain ⟨k, hk, rfl, hx, hb⟩ := hrel
      have HX := Lib.hid hx
      have HB := Lib.hid hb
      clear hx hb
      cases k with
      | zero =>
        have hz : ((0 : Nat) : Int) - 1 = -1 := by decide
        rw [hz]
        clear hz
        go_wp2_with fail
        refine (takeI_no HX.out.at.choose_spec 0 (by simp) _ _ (errRange_at (HE.out.below HB.out))).mono ?_
        rintro e w4 ⟨rfl, hb4⟩
        have B4 := Lib.hid (HB.out.trans (hb4.mono HB.out.size))
        have X4 := Lib.hid (HX.out.below hb4)
        clear hb4
        go_wp2_with fail
        refine (num_range (HE.out.below B4.out)).mono ?_
        rintro e w5 ⟨rfl, hb5⟩
        have B5 := Lib.hid (B4.out.trans (hb5.mono B4.out.size))
        have X5 := Lib.hid (X4.out.below hb5)
        clear hb5
        go_wp2_with fail
        refine (lenI_call X5.out.at.choose_spec).mono ?_
        rintro e w6 ⟨rfl, rfl⟩
        go_wp2
        go_ret
        exact ⟨rfl, B5.out⟩
      | succ j =>
        have hz : ((j + 1 : Nat) : Int) - 1 = (j : Int) := by omega
        rw [hz]
        have hlt : (l.take (j + 1)).length = j + 1 := by simp; omega
        have HL := Lib.hid hlt
        have HZ := Lib.hid hz
        clear hlt hz
        obtain ⟨g, o, rfl, hg, cV⟩ := HV.out (by omega)
        have d1 := Lib.hid (atI cV (show j < l.length by omega))
        have TK := Lib.hid (HX.out.ask (fun M h => takeI_at h (((l.take (j + 1)).length : Int) - 1) (by rw [HL.out]; omega) (by omega)))
        rw [HL.out, HZ.out, Int.toNat_natCast, take_last l j (by omega), take_get l j (by omega)] at TK
        have LN := Lib.hid (lenI_call HX.out.at.choose_spec)
        rw [HL.out] at LN
        clear cV
        generalize l[j]! = x at d1 TK
        have hz : ((j + 1 : Nat) : Int) - 1 = (j : Int) := by omega
        go_wp2_with fail
        refine LN.out.mono ?_
        rintro e w4 ⟨rfl, rfl⟩
        go_wp2_with fail
        refine TK.out.mono ?_
        rintro e w5 ⟨rfl, hx5, hk5⟩
        have X5 := Lib.hid hx5
        have B5 := Lib.hid (HB.out.trans (hk5.below HB.out.size))
        have d2 := Bc B5.out hg d1.out
        have hjl : j < l.length := by omega
        have hji : (j : Int) < (l.length : Int) := by omega
        clear hx5 hk5
        go_wp2
        go_roundw
        case measure => simp [intOf]
        case rel => exact ⟨j, by omega, rfl, X5.out, B5.out⟩
  · have hb : (100 : Int) < (l.length : Int) := by omega
    clear hbig
    go_enter Tryd.func6, Tryd.ntmps6
    go_wp2_with fail
    refine (alive_any w).mono ?_
    rintro e w1 ⟨rfl, hb1⟩
    go_wp2
    go_ret
    exact ⟨rfl, hb1⟩
end Go.Proofs.YtfoagdnbegpjeaaDoor
