/-
  slices.Concat at handles, order.Merge.
-/
import Derived.Test.YtdpcdfjgpechbaaMerge
namespace Go.Proofs.Ytdpcdfjgpechbaa
set_option linter.unusedSimpArgs false
set_option linter.unusedVariables false
open Go.RowKit Go.Sort Go.Lib Go.Shelf

set_option maxHeartbeats 1000000 in
/-- slices.Grow of the nil slice. -/
theorem grow_call (n : Nat) (w : World) (hn : n ≤ 200000) : Calls Try.prog 57 #[.slice none 0 0, .int .i64 n] w fun e w' => ∃ v', e = .returned v' ∧ w'.ownsRow w.heap.size 28 2 v' 0 (flat encH []) ∧ RowKit.Below w.heap.size w w' := by
  by_cases h0 : n = 0
  · subst h0
    refine (Any8.slices_Grow_room Try.growH none 0 0 0 w (by omega) (by omega) (by omega) (by omega)).mono ?_
    rintro e w' ⟨rfl, rfl⟩
    exact ⟨_, rfl, World.ownsRow_nil _ _ _ _, Below.refl _ _⟩
  · obtain ⟨i0, hi, hz, hs, hb⟩ := apH.hi
    refine (Any8.slices_Grow_grow Try.growH i0 (.agg #[.int .i64 0, .int .i64 0]) hi hz (by rw [hs]; omega) none 0 0 n [] w (by omega) (by omega) (by rw [hb]; omega) (by omega) (by simp) (fun _ => rfl) (fun a h => by cases h)).mono ?_
    rintro e w' ⟨rfl, rfl⟩
    have hG := grownCap_ge w (0 + n) 0 (Try.growH_ren.t 25)
    refine ⟨_, rfl, ?_, ((Below.refl _ w).drew).alloc (Nat.le_refl _) _⟩
    exact World.ownsRow_made (w := w.drew) (base := w.heap.size) (e := 28) (size := 2) _ _ (Nat.le_refl _) (grownCap_le_maxLen w (0 + n) 0 (Try.growH_ren.t 25) (by unfold maxLen; omega)) (by
      simp only [Array.size_append, size_zeroCells, Value.cells, List.size_toArray, List.length_nil, List.length_cons]
      omega)

set_option maxHeartbeats 4000000 in
set_option maxRecDepth 100000 in
/-- slices.Concat of two. -/
theorem concat_call (la lb : List Hd) (va vb : Value) (B : Nat) (w : World) (ha : Sl encH w va la) (hb : Sl encH w vb lb) (h0 : w.cell? ⟨B, 0, none⟩ = some va) (h1 : w.cell? ⟨B, 1, none⟩ = some vb) (hla : la.length ≤ 100000) (hlb : lb.length ≤ 100000) :
    Calls Try.prog 40 #[.slice (some ⟨B, 0, none⟩) 2 2] w fun e w' => ∃ v', e = .returned v' ∧ w'.ownsRow w.heap.size 28 2 v' (la ++ lb).length (flat encH (la ++ lb)) ∧ RowKit.Below w.heap.size w w' := by
  have hBl := cell_lt h0
  obtain ⟨pa, ca, rfl, ha1, ha2, ha3⟩ := ha
  obtain ⟨pb, cb, rfl, hb1, hb2, hb3⟩ := hb
  have HA := Lib.hid (show Sl encH w (.slice pa la.length ca) la from ⟨pa, ca, rfl, ha1, ha2, ha3⟩)
  have HB := Lib.hid (show Sl encH w (.slice pb lb.length cb) lb from ⟨pb, cb, rfl, hb1, hb2, hb3⟩)
  clear ha3 hb3
  have z1 : (la.length : Int) ≤ 100000 := by omega
  have z2 : (lb.length : Int) ≤ 100000 := by omega
  have z3 : ¬ ((la.length : Int) < 0) := by omega
  have z4 : ¬ ((la.length : Int) + (lb.length : Int) < 0) := by omega
  go_enter Try.func40, Try.ntmps40
  go_wp2_with fail
  refine wp_loop_rounds 3 ?_
  rw [rounds_succ]
  go_wp2
  rw [rounds_succ]
  go_wp2
  rw [rounds_succ]
  go_wp2_with fail
  have hcast : (la.length : Int) + (lb.length : Int) = ((la.length + lb.length : Nat) : Int) := by omega
  refine (show Calls Try.prog 57 #[.slice none 0 0, .int .i64 ((la.length : Int) + (lb.length : Int))] w _ by rw [hcast]; exact grow_call (la.length + lb.length) w (by omega)).mono ?_
  rintro e w1 ⟨v1, rfl, ho1, hb1⟩
  have O1 := Lib.hid ho1
  have B1 := Lib.hid hb1
  have SA := Lib.hid (HA.out.below hb1)
  have c0 : w1.cell? ⟨B, 0, none⟩ = some (.slice pa la.length ca) := Bc hb1 hBl h0
  have H1 := Lib.hid h1
  clear ho1 hb1 h0 h1 hcast
  go_wp2_with fail
  refine wp_loop_rounds 3 ?_
  rw [rounds_succ]
  go_wp2_with (at_builtin; refine wpl_app apH rfl _ _ rfl w.heap.size (by rfl) (by rfl) O1.out rfl SA.out (by simp; omega) B1.out.size ?_; intro v2 w2 hown2 hgrow2 hnil2)
  have b2 := grownB B1.out O1.out hgrow2
  have B2 := Lib.hid b2
  have O2 := Lib.hid hown2
  have c1 : w2.cell? ⟨B, 1, none⟩ = some (.slice pb lb.length cb) := Bc b2 hBl H1.out
  have SB := Lib.hid (HB.out.below b2)
  clear hown2 hgrow2 hnil2 b2
  rw [rounds_succ]
  go_wp2_with (at_builtin; refine wpl_app apH rfl _ _ rfl w.heap.size (by rfl) (by rfl) O2.out (by simp) SB.out (by simp; omega) B2.out.size ?_; intro v3 w3 hown3 hgrow3 hnil3)
  have b3 := grownB B2.out O2.out hgrow3
  rw [rounds_succ]
  go_wp2
  go_ret
  rw [List.nil_append] at hown3
  exact ⟨_, rfl, by rw [List.length_append]; exact hown3, b3⟩

set_option maxHeartbeats 1000000 in
set_option maxRecDepth 100000 in
/-- order.Merge: what stands in either. -/
theorem merge_call (la lb : List Hd) (va vb : Value) (w : World) (ha : Sl encH w va la) (hb : Sl encH w vb lb) (hla : la.length ≤ 10000) (hlb : lb.length ≤ 10000) :
    Calls Try.prog 24 #[va, vb] w fun e w' => ∃ v', e = .returned v' ∧ Own w.heap.size encH 2 w' v' (srt ltH (la ++ lb)) ∧ RowKit.Below w.heap.size w w' := by
  obtain ⟨pa, ca, rfl, ha1, ha2, ha3⟩ := ha
  obtain ⟨pb, cb, rfl, hb1, hb2, hb3⟩ := hb
  obtain ⟨W0, hW0⟩ : ∃ W0, W0 = w.alloc (.cells #[.slice pa la.length ca, .slice pb lb.length cb] 22) := ⟨_, rfl⟩
  have B0 := Lib.hid (show RowKit.Below w.heap.size w W0 by rw [hW0]; exact Ba (Below.refl _ _) _)
  have HC := Lib.hid (concat_call la lb _ _ w.heap.size W0 (Sl.below (show Sl encH w (.slice pa la.length ca) la from ⟨pa, ca, rfl, ha1, ha2, ha3⟩) B0.out) (Sl.below (show Sl encH w (.slice pb lb.length cb) lb from ⟨pb, cb, rfl, hb1, hb2, hb3⟩) B0.out) (by rw [hW0]; simp) (by rw [hW0]; simp) (by omega) (by omega))
  have HW0 := Lib.hid hW0
  clear ha3 hb3 hW0
  go_enter Try.func24, Try.ntmps24
  go_wp2_with fail
  rw [← HW0.out]
  refine HC.out.mono ?_
  rintro e w1 ⟨v1, rfl, ho1, hb1'⟩
  have S1 := Lib.hid (row_sl lenH ho1 rfl)
  have B1 := Lib.hid (Bt B0.out hb1')
  clear ho1 hb1' HC HW0
  go_wp2_with fail
  refine (handles_call _ v1 w1 S1.out (by simp; omega)).mono ?_
  rintro e w2 ⟨v2, rfl, ho2, hb2'⟩
  have O2 := Lib.hid (ho2.mono B1.out.size)
  have B2 := Lib.hid (Bt B1.out hb2')
  clear ho2 hb2'
  go_wp2
  go_ret
  exact ⟨_, rfl, O2.out, B2.out⟩
end Go.Proofs.Ytdpcdfjgpechbaa
