/-
  'alive' of the statements on columns: the chapter's example.
-/
import Derived.Test.YtfoagdnbegpjeaaDoorCI
namespace Go.Proofs.YtfoagdnbegpjeaaDoor
set_option linter.unusedSimpArgs false
set_option linter.unusedVariables false
open Go.RowKit Go.Sort Go.Lib Go.Shelf

section
variable {pa : Nat} {L : List Int} {m : Int} {M : Nat → Prop} {w : World}
theorem takeI_at (hp : ColI w M pa L m) (i : Int) (h0 : 0 ≤ i) (h1 : i < L.length) : Calls Tryd.prog 18 #[.pointer (some ⟨pa, 0, none⟩), .int .i64 i] w fun e w' => e = .returned (.tuple #[.int .i64 L[i.toNat]!, .nilIface]) ∧ ColI w' (New M w w') pa (takeC L i.toNat) m ∧ Tch M w w' := by
  obtain ⟨n, rfl⟩ : ∃ n : Nat, i = n := ⟨i.toNat, by omega⟩
  rw [Int.toNat_natCast]
  exact takeI_yes hp n (by omega)
end
/-- A column of numbers of the call's own. -/
abbrev ColXI (base : Nat) (w : World) (pa : Nat) (L : List Int) (m : Int) : Prop := ColX encI 3 1 66 base w pa L m

set_option maxHeartbeats 2000000 in
set_option maxRecDepth 100000 in
theorem alive_any (w : World) : Calls Tryd.prog 7 #[] w fun e w' => e = .returned (.bool true) ∧ RowKit.Below w.heap.size w w' := by
  have C0 := Lib.hid (newI_call 3 w)
  have h3 : max (3 : Int) 0 = 3 := by decide
  rw [h3] at C0
  clear h3
  go_enter Tryd.func7, Tryd.ntmps7
  go_wp2_with fail
  refine C0.out.mono ?_
  rintro e w1 ⟨pa, rfl, hp1, hb1⟩
  have B2 := Lib.hid (Ba hb1 (.cells #[.int .i64 7, .int .i64 8, .int .i64 9] 3))
  have X2 := Lib.hid (ColX.below (ColX.new (base := w.heap.size) hp1 (Nat.le_refl _) hb1.size) (Ba (Below.refl _ w1) (.cells #[.int .i64 7, .int .i64 8, .int .i64 9] 3)))
  have S2 := Lib.hid (sl_lit (enc := encI) (w := w1) (cs := #[.int .i64 7, .int .i64 8, .int .i64 9]) (t := 3) (b := w1.heap.size) [7, 8, 9] rfl rfl (by unfold maxLen; simp))
  clear hp1 hb1
  go_wp2_with fail
  refine (X2.out.ask (fun M h => pushI_yes h [7, 8, 9] _ S2.out (by decide) (by decide) (by decide) (by decide))).mono ?_
  rintro e w3 ⟨rfl, hx3, hk3⟩
  have X3 := Lib.hid hx3
  have B3 := Lib.hid (B2.out.trans (hk3.below B2.out.size))
  clear hx3 hk3
  go_wp2_with fail
  refine (X3.out.ask (fun M h => takeI_at h 0 (by decide) (by decide))).mono ?_
  rintro e w4 ⟨rfl, hx4, hk4⟩
  have X4 := Lib.hid hx4
  have B4 := Lib.hid (B3.out.trans (hk4.below B3.out.size))
  have q1 : ([] ++ [7, 8, 9] : List Int)[(0 : Int).toNat]! = 7 := by decide
  have q2 : takeC ([] ++ [7, 8, 9] : List Int) (0 : Int).toNat = [9, 8] := by decide
  rw [q2] at X4
  rw [q1]
  clear hx4 hk4 q1 q2
  go_wp2_with fail
  refine (allI_call X4.out.at.choose_spec (by decide)).mono ?_
  rintro e w5 ⟨v, rfl, ho5, hb5⟩
  obtain ⟨p5, c5, rfl, _, _, _⟩ := row_val ho5
  have B5 := Lib.hid (B4.out.trans (hb5.mono B4.out.size))
  have S5 := Lib.hid ((row_sl lenI ho5 rfl).below (Ba (Below.refl _ w5) (.cells #[.int .i64 9, .int .i64 8] 3)))
  have S6 := Lib.hid (sl_lit (enc := encI) (w := w5) (cs := #[.int .i64 9, .int .i64 8]) (t := 3) (b := w5.heap.size) [9, 8] rfl rfl (by unfold maxLen; simp))
  have B6 := Lib.hid (Ba B5.out (.cells #[.int .i64 9, .int .i64 8] 3))
  have hd : decide (([9, 8] : List Int) = [9, 8]) = true := rfl
  clear ho5 hb5
  go_wp2_with fail
  refine (sameInts_call [9, 8] [9, 8] _ _ _ S5.out S6.out).mono ?_
  rintro e w7 ⟨rfl, hg7⟩
  have B7 := Lib.hid (Bt B6.out hg7.below)
  clear hg7
  go_wp2
  go_ret
  exact ⟨rfl, B7.out⟩
end Go.Proofs.YtfoagdnbegpjeaaDoor
