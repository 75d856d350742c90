import Derived.Test.YtlnncnbahmgpfaaGreatDoorZ11
import Derived.Test.YtlnncnbahmgpfaaGreatDoorZ34
import Derived.Test.YtlnncnbahmgpfaaGreatDoorZ6

/-
  Package quad: Handles.
-/
namespace Go.Proofs.YtlnncnbahmgpfaaGreatDoor
set_option linter.unusedSimpArgs false
set_option linter.unusedVariables false
open Go.RowKit Go.Sort Go.Lib Go.Shelf Go.Maps

section
variable {w : World} {M : Nat → Prop} {pt : Nat} {B : List Bxd}
set_option maxHeartbeats 1000000 in
set_option maxRecDepth 100000 in
theorem hdsT_call (hp : TrAt w M pt B) (hl : B.length ≤ 200) :
    Calls Tryz.prog 43 #[.pointer (some ⟨pt, 0, none⟩)] w fun e w' => ∃ v', e = .returned v' ∧ Sl encH w' v' (hdsB B) ∧ RowKit.Below w.heap.size w w' := by
  obtain ⟨mb, R, rv, q, hI⟩ := hp
  obtain ⟨c0, -⟩ := hI.cells
  have hlt := cell_lt c0
  have HK : Hid (∀ W, Calls Tryz.prog 75 #[.map (some mb)] W fun e w' => e = .returned (.func (.func KeysF) #[] #[.pointer (some ⟨W.heap.size, 0, none⟩)]) ∧ w' = W.alloc (.cells #[.map (some mb)] 58)) := fun W => by
    go_enter Tryz.func75, Tryz.ntmps75
    go_wp2
    go_ret
    exact ⟨rfl, rfl⟩
  have HM := Lib.hid hI.map
  have HSS : Hid (∀ ss, KeysOf (boxF B) ss → srt ltH ss = hdsB B) := fun ss hks => by
    have hok := hI.hds
    refine srt_eq sto_hd (rise_srt sto_hd _) fun z => ?_
    unfold hdsB
    rw [mem_srt sto_hd, List.mem_map]
    constructor
    · rintro ⟨y, hy, rfl⟩
      refine (hks.2.1 _ (hok y hy)).2 ?_
      rw [boxF_mem hI.once (x := y.2) hy]
      rfl
    · intro hz
      have h1 := (hks.2.1 z (hks.2.2 z hz)).1 hz
      cases hb : boxF B z with
      | none => rw [hb] at h1; cases h1
      | some x => exact ⟨(z, x), boxF_some hb, rfl⟩
  have HCO : Hid (∀ (W : World) (Bm : Nat), RowKit.Below w.heap.size w W → W.cell? ⟨Bm, 0, none⟩ = some (.map (some mb)) → Calls Tryz.prog 74 #[.func (.func KeysF) #[] #[.pointer (some ⟨Bm, 0, none⟩)]] W fun e W' => ∃ v ss, e = .returned v ∧ KeysOf (boxF B) ss ∧ ss.length ≤ B.length ∧ W'.ownsRow W.heap.size 28 2 v ss.length (flat encH ss) ∧ RowKit.Below W.heap.size W W') := fun W Bm hW hc => by
    have HAS := Lib.hid (appendSeqH Bm mb B.length (boxF B) (by omega) W (cell_lt hc) hc (HM.out.below hW))
    clear hc
    go_enter Tryz.func74, Tryz.ntmps74
    go_wp2_with fail
    refine HAS.out.mono ?_
    rintro e w1 ⟨v1, ss, rfl, h1, h2, h3, h4⟩
    have H := Lib.hid (And.intro h1 (And.intro h2 (And.intro h3 h4)))
    clear h1 h2 h3 h4
    go_wp2
    go_ret
    exact ⟨_, ss, rfl, H.out.1, H.out.2.1, H.out.2.2.1, H.out.2.2.2⟩
  clear hI
  go_enter Tryz.func43, Tryz.ntmps43
  go_wp2_with fail
  refine (HK.out _).mono ?_
  rintro e w1 ⟨rfl, rfl⟩
  have HC1 := Lib.hid (HCO.out (w.alloc (.cells #[.map (some mb)] 58)) w.heap.size (Ba (Below.refl _ w) _) (by simp))
  go_wp2_with fail
  refine HC1.out.mono ?_
  rintro e w2 ⟨v2, ss, rfl, h1, h2, h3, h4⟩
  have S2 := Lib.hid (row_sl lenH h3 rfl)
  have B2 := Lib.hid (Bt (Ba (Below.refl _ w) _) h4)
  have E2 := Lib.hid (HSS.out ss h1)
  have L2 := Lib.hid (show ss.length ≤ 100000 by omega)
  clear h1 h2 h3 h4
  go_wp2_with fail
  refine (handles_call ss v2 w2 S2.out L2.out).mono ?_
  rintro e w3 ⟨v3, rfl, h5, h6⟩
  rw [E2.out] at h5
  have H5 := Lib.hid h5
  have B3 := Lib.hid (Bt B2.out h6)
  clear h5 h6
  go_wp2
  go_ret
  exact ⟨_, rfl, Own.sl lenH H5.out, B3.out⟩
end
end Go.Proofs.YtlnncnbahmgpfaaGreatDoor
