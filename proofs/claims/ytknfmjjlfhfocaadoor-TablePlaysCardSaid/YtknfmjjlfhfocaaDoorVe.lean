/-
  schema.wrong, compare, rising, Drop's closure; Find in the program and in the reference.
-/
import Derived.Test.YtknfmjjlfhfocaaDoorVd
namespace Go.Proofs.YtknfmjjlfhfocaaDoor
set_option linter.unusedSimpArgs false
set_option linter.unusedVariables false
open Go.RowKit Go.Sort Go.Lib Go.Shelf

def wrongB (x : Vl) : Bool := !(chk x == 0)
set_option maxHeartbeats 1000000 in
theorem wrong_any (x : Vl) (A : Nat → Addr) (w : World) (hE : Er w A) : Calls Tryd.prog 62 #[aggV x] w fun e w' => e = .returned (.bool (wrongB x)) ∧ Gr w w' := by
  have HC : Hid (∀ W, Er W A → Calls Tryd.prog 46 #[aggV x] W fun e w' => e = .returned (errV A (chk x)) ∧ Gr W w') := fun W h => check_any x A W h
  have HE := Lib.hid hE
  clear hE
  obtain ⟨k, a, b⟩ := x
  unfold aggV at *
  dsimp only at *
  unfold wrongB
  by_cases h : chk (k, a, b) = 0
  · rw [h] at HC ⊢
    rw [errV_no] at HC
    clear h
    go_enter Tryd.func62, Tryd.ntmps62
    go_wp2_with (go_at_call 46; refine (HC.out _ (HE.out.below (by repeat (first | with_reducible exact Below.refl _ _ | with_reducible assumption | with_reducible apply Ba | with_reducible apply Bd | with_reducible apply Bn | with_reducible apply Bg | (with_reducible refine Bs ?_ (by first | (simp; done) | (simp; omega)) _) | (with_reducible refine Bt ?_ (by assumption)) | (with_reducible refine Bt ?_ (Gr.below (by assumption))))))).mono ?_; rintro e w1 ⟨rfl, hg1⟩)
    go_ret
    exact ⟨rfl, (by repeat (first | with_reducible exact Gr.refl _ | with_reducible assumption | with_reducible apply Gr.alloc | with_reducible apply Gr.drewN | with_reducible apply Gr.drew | with_reducible apply Gr.grow | (with_reducible refine Gr.trans ?_ (by assumption))))⟩
  · rw [errV_at A _ h] at HC
    rw [show (!(chk (k, a, b) == 0)) = true by simp [h]]
    generalize A (chk (k, a, b) - 1) = p at HC
    clear h
    go_enter Tryd.func62, Tryd.ntmps62
    go_wp2_with (go_at_call 46; refine (HC.out _ (HE.out.below (by repeat (first | with_reducible exact Below.refl _ _ | with_reducible assumption | with_reducible apply Ba | with_reducible apply Bd | with_reducible apply Bn | with_reducible apply Bg | (with_reducible refine Bs ?_ (by first | (simp; done) | (simp; omega)) _) | (with_reducible refine Bt ?_ (by assumption)) | (with_reducible refine Bt ?_ (Gr.below (by assumption))))))).mono ?_; rintro e w1 ⟨rfl, hg1⟩)
    go_ret
    exact ⟨rfl, (by repeat (first | with_reducible exact Gr.refl _ | with_reducible assumption | with_reducible apply Gr.alloc | with_reducible apply Gr.drewN | with_reducible apply Gr.drew | with_reducible apply Gr.grow | (with_reducible refine Gr.trans ?_ (by assumption))))⟩

def cmpV (x y : Vl) : Int := Lib.compareInt x.1 y.1
set_option maxHeartbeats 1000000 in
set_option maxRecDepth 100000 in
theorem rising_call (l : List Vl) (v : Value) (w : World) (hl : Sl encV w v l) : Calls Tryd.prog 60 #[v] w fun e w' => e = .returned (.bool (decide (RiseK l))) ∧ Gr w w' := by
  obtain ⟨p, cap, rfl, hl1, hl2, hl3⟩ := hl
  have HL := Lib.hid hl3
  have hbig : l.length ≤ 9223372036854775807 := by unfold maxLen at hl2; omega
  clear hl3 hl2
  obtain ⟨B, hB⟩ : ∃ B, B = decide (RiseK l) := ⟨_, rfl⟩
  rw [← hB]
  have HB := Lib.hid hB
  clear hB
  go_enter Tryd.func60, Tryd.ntmps60
  go_wp2
  go_loopg [3] l.length (fun gk s3 wr => ∃ q : Nat, s3 = .int .i64 (q + 1 : Nat) ∧ q ≤ l.length ∧ l.length - q ≤ gk ∧ Gr w wr ∧ Hid (RiseK (l.take (q + 1))))
  case atStart => exact ⟨0, by go_num, Nat.zero_le _, by omega, Gr.refl _, rise_take_one l⟩
  case round =>
    obtain ⟨q, rfl, hq, hgk, hg, I⟩ := hrel
    by_cases hqn : q + 1 < l.length
    · obtain ⟨g, o, rfl, hg1, hg2⟩ := HL.out (by omega)
      have c1 := (atV hg2 (show q < l.length by omega)).1
      have c2 := (atV hg2 hqn).1
      have d1 : wr.cell? ⟨g, o + q * 3, none⟩ = some (.int .i64 l[q]!.1) := Bc hg.below hg1 c1
      have d2 : wr.cell? ⟨g, o + (q + 1) * 3, none⟩ = some (.int .i64 l[q + 1]!.1) := Bc hg.below hg1 c2
      have hst : l[q]!.1 < l[q + 1]!.1 → RiseK (l.take (q + 1 + 1)) := fun h => rise_step (by omega) hqn I.out (by simpa using h)
      have hno : l[q + 1]!.1 ≤ l[q]!.1 → B = false := fun h => by rw [HB.out]; exact decide_eq_false (rise_no (i := q + 1) (by omega) hqn (by simpa using h))
      have hgw : g < wr.heap.size := Bl hg.below hg1
      generalize l[q]!.1 = x at *
      generalize l[q + 1]!.1 = y at *
      have HS := Lib.hid hst
      have HN := Lib.hid hno
      have HG := Lib.hid hg
      have e1 : ((q + 1 : Nat) : Int) - 1 = (q : Int) := by omega
      clear hst hno hg c1 c2 hg2
      by_cases hxy : x < y
      · go_wp2_with fail
        go_region
        go_wp2
        go_roundg (l.length - (q + 1))
        case measure => omega
        case rel => exact ⟨q + 1, by go_num, by omega, Nat.le_refl _, HG.out.drewN, HS.out hxy⟩
      · go_wp2_with fail
        go_region
        go_wp2
        go_ret
        exact ⟨by rw [HN.out (by omega)]; rfl, HG.out.drewN⟩
    · have HBT := Lib.hid (show B = true by
        rw [HB.out]
        refine decide_eq_true ?_
        have := I.out
        rwa [List.take_of_length_le (by omega)] at this)
      have HG := Lib.hid hg
      clear hg
      go_wp2
      go_ret
      exact ⟨by rw [HBT.out]; rfl, HG.out⟩
end Go.Proofs.YtknfmjjlfhfocaaDoor
