/-
  A list handed in with four marks behind it, and whether it was kept (stage 3's texts).
-/
import Derived.Test.YtklpemcchfmdjaaDoorOp15
import Derived.Test.YtklpemcchfmdjaaDoorFc
namespace Go.Proofs.YtklpemcchfmdjaaDoor
set_option linter.unusedSimpArgs false
set_option linter.unusedVariables false
open Go.RowKit Go.Sort Go.Lib Go.Shelf

/-- The four marks behind a list that is to be kept. -/
def marks : List Int := [-91, -92, -93, -94]
set_option maxHeartbeats 2000000 in
set_option maxRecDepth 100000 in
theorem numInts_call (l : List Int) (v : Value) (w : World) (hl : Sl encI w v l) (hlen : l.length ≤ 100000) :
    Calls Tryd.prog 12 #[v] w fun e w' => ∃ g cap, e = .returned (.slice (some ⟨g, 0, none⟩) l.length cap) ∧ w'.ownsRow w.heap.size 3 1 (.slice (some ⟨g, 0, none⟩) (l.length + 4) cap) (l.length + 4) (flat encI (l ++ marks)) ∧ RowKit.Below w.heap.size w w' := by
  obtain ⟨p, cap, rfl, hl1, hl2, hl3⟩ := hl
  have HL := Lib.hid (show Sl encI w (.slice p l.length cap) l from ⟨p, cap, rfl, hl1, hl2, hl3⟩)
  clear hl3
  have hz : (l.length : Int) ≤ 100000 := by omega
  obtain ⟨Z, hZ, hmk⟩ : ∃ Z : Array Value, Z.size = (l.length + 4) * 1 ∧ ∀ W : World, (Instr.makeSlice 35 (.int .i64 0) (.int .i64 ((l.length : Int) + 4))).run Tryd.prog W = .ok (.slice (some ⟨W.heap.size, 0, none⟩) 0 (l.length + 4)) (W.alloc (.cells Z 3)) := by
    obtain ⟨i, hi, hz1, hs1, hb1⟩ := apI.hi
    refine ⟨madeCells (Value.int .i64 0).cells (((l.length : Int) + 4).toNat * i.size), ?_, fun W => ?_⟩
    · rw [size_madeCells, hs1]; congr 1
    · have := run_make (P := Tryd.prog) W 35 3 i (.int .i64 0) apI.ht hi hz1 .i64 .i64 0 ((l.length : Int) + 4) (Int.le_refl _) (by omega) (by rw [hb1]; omega) (by omega)
      have e : ((l.length : Int) + 4).toNat = l.length + 4 := by omega
      rw [e] at this ⊢
      exact this
  have O1 := Lib.hid (show (w.alloc (.cells Z 3)).ownsRow w.heap.size 3 1 (.slice (some ⟨w.heap.size, 0, none⟩) 0 (l.length + 4)) 0 (flat encI []) from World.ownsRow_made w Z (l.length + 4) (Nat.le_refl _) (by unfold maxLen; omega) hZ)
  have A1 := Lib.hid (Ba (Below.refl _ w) (.cells Z 3))
  have S1 := Lib.hid (HL.out.below A1.out)
  clear hZ
  go_enter Tryd.func12, Tryd.ntmps12
  go_wp2_with (first
    | (at_builtin; refine wpl_app apI rfl _ _ rfl w.heap.size (by rfl) (by rfl) O1.out rfl S1.out (by simp; omega) A1.out.size ?_; intro v1 w1 hown1 hgrow1 hnil1; have b3 := grownB A1.out O1.out hgrow1; have N3 := Lib.hid (show v1 ≠ .slice none 0 0 from fun h => by simp [h] at hnil1); have A3 := Lib.hid (Ba b3 (.cells #[.int .i64 (-91), .int .i64 (-92), .int .i64 (-93), .int .i64 (-94)] 3)); have O4 := Lib.hid (hown1.alloc (.cells #[.int .i64 (-91), .int .i64 (-92), .int .i64 (-93), .int .i64 (-94)] 3)); have S4 := Lib.hid (sl_lit (enc := encI) (w := w1) (cs := #[.int .i64 (-91), .int .i64 (-92), .int .i64 (-93), .int .i64 (-94)]) (t := 3) (b := w1.heap.size) marks rfl rfl (by unfold maxLen; simp [marks])); clear hown1 hgrow1 hnil1 b3 O1)
    | (at_builtin; refine wpl_app apI rfl _ _ rfl w.heap.size (by rfl) (by rfl) O4.out (by rw [List.length_append]) S4.out (by rw [List.nil_append]; show l.length + 4 ≤ 1000000; omega) A3.out.size ?_; intro v2 w2 hown2 hgrow2 hnil2; have B5 := Lib.hid (grownB A3.out O4.out hgrow2); obtain ⟨g, cap2, rfl, hbg, hgl, hlc, hcm⟩ := row_form hown2 (fun h => N3.out (hnil2.1 h).1); have hzz : l.length ≤ cap2 := Nat.le_trans (Nat.le_add_right l.length marks.length) hlc; have O5 := Lib.hid hown2; clear hown2 hgrow2 hnil2 hlc hcm))
  go_ret
  refine ⟨g, cap2, rfl, ?_, B5.out⟩
  have := O5.out
  simpa [marks] using this
set_option maxHeartbeats 2000000 in
set_option maxRecDepth 100000 in
theorem keptInts_call (l : List Int) (base g cap : Nat) (vb : Value) (w : World) (hrow : w.ownsRow base 3 1 (.slice (some ⟨g, 0, none⟩) (l.length + 4) cap) (l.length + 4) (flat encI (l ++ marks))) (hb : Sl encI w vb l) (hlen : l.length ≤ 100000) :
    Calls Tryd.prog 17 #[.slice (some ⟨g, 0, none⟩) l.length cap, vb] w fun e w' => e = .returned (.bool true) ∧ Gr w w' := by
  obtain ⟨_, _, hf, hbg, hgl, hlc, hcm⟩ := row_form hrow (by simp)
  simp only [Value.slice.injEq, Option.some.injEq, Addr.mk.injEq, and_true, true_and] at hf
  obtain ⟨rfl, rfl⟩ := hf
  obtain ⟨p, c, rfl, hl1, hl2, hl3⟩ := hb
  have HL := Lib.hid (show Sl encI w (.slice p l.length c) l from ⟨p, c, rfl, hl1, hl2, hl3⟩)
  have hml : cap ≤ 9223372036854775807 := by unfold maxLen at hcm; omega
  have HC := Lib.hid (cellsI hrow)
  have HF : Hid (Sl encI w (.slice (some ⟨g, 0, none⟩) l.length cap) l) := by
    have := row_sl lenI (frontI hrow (by simp [marks]) l.length (by omega)) (by simp)
    rwa [List.take_left] at this
  clear hl3 hrow
  have hz : ¬ (cap : Int) < (l.length : Int) + 4 := by omega
  have hz2 : l.length ≤ cap := by omega
  have hd : decide (l = l) = true := decide_eq_true rfl
  go_enter Tryd.func17, Tryd.ntmps17
  go_wp2_with fail
  refine (sameInts_call l l _ _ w HF.out HL.out).mono ?_
  rintro e w1 ⟨rfl, hg1⟩
  have HG := Lib.hid hg1
  have CM : Hid (∀ j, j < 4 → w1.cell? ⟨g, l.length + j, none⟩ = some (.int .i64 (-91 - (j : Int)))) := fun j hj => by
    have h1 : (flat encI (l ++ marks))[l.length + j]? = some (.int .i64 (-91 - (j : Int))) := by
      rw [flatI_get _ _ (by simp [marks]; omega), getElem!_pos _ _ (by simp [marks]; omega), List.getElem_append_right (by omega)]
      have : j = 0 ∨ j = 1 ∨ j = 2 ∨ j = 3 := by omega
      rcases this with rfl | rfl | rfl | rfl <;> simp [marks]
    have h2 := HC.out _ _ h1
    rw [Nat.zero_add] at h2
    exact Bc HG.out.below hgl h2
  clear hg1 hd
  go_wp2_with fail
  go_loopw [6] (fun i wr => ∃ j : Nat, j ≤ 4 ∧ i = .int .i64 j ∧ wr = w1) (fun i _ => 4 - (intOf i).toNat)
  case atStart => exact ⟨0, Nat.zero_le _, rfl, rfl⟩
  case round =>
    obtain ⟨j, hj, rfl, rfl⟩ := hrel
    by_cases hj4 : j < 4
    · have hjz : (j : Int) < 4 := by omega
      have c1 := CM.out j hj4
      have hti : ((l.length : Int) + (j : Int)).toNat = l.length + j := by omega
      have hlt : (l.length : Int) + (j : Int) < (cap : Int) := by omega
      have hln : l.length + j < cap := by omega
      go_wp2
      go_roundw
      case measure => simp [intOf]; omega
      case rel => exact ⟨j + 1, by omega, by go_num, trivial⟩
    · have hjz : ¬ (j : Int) < 4 := by omega
      go_wp2
      go_ret
      exact ⟨rfl, HG.out⟩
end Go.Proofs.YtklpemcchfmdjaaDoor
