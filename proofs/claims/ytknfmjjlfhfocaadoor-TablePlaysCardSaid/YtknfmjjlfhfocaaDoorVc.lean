/-
  Check in the program and in the reference; what is wrong, the order by kind, rising.
-/
import Derived.Test.YtknfmjjlfhfocaaDoorVk
namespace Go.Proofs.YtknfmjjlfhfocaaDoor
set_option linter.unusedSimpArgs false
set_option linter.unusedVariables false
open Go.RowKit Go.Sort Go.Lib Go.Shelf

theorem rngV_parts (k : Int) : ∃ a1 a2 b1 b2, rngV k = ((a1, a2), (b1, b2)) := ⟨_, _, _, _, rfl⟩

set_option maxHeartbeats 4000000 in
set_option maxRecDepth 100000 in
theorem check_any (x : Vl) (A : Nat → Addr) (w : World) (hE : Er w A) : Calls Tryd.prog 46 #[aggV x] w fun e w' => e = .returned (errV A (chk x)) ∧ Gr w w' := by
  obtain ⟨k, a, b⟩ := x
  have HE := Lib.hid hE
  clear hE
  unfold aggV
  dsimp only
  cases hk : kindB k
  · have e : chk (k, a, b) = 5 := by simp [chk, hk]
    rw [e, errV_at A 5 (by decide)]
    have HC : Hid (∀ W v, Sl encI W v [k] → ErrK W (A 4) → Calls Tryd.prog 63 #[v] W fun e w' => e = .returned (.tuple #[.int .u64 0, .iface 141 (.pointer (some (A 4)))]) ∧ Gr W w') := fun W v h1 h2 => by
      have := of_call [k] v (A 4) W h1 h2
      rwa [resK_no (by simp [hk])] at this
    clear e
    go_enter Tryd.func46, Tryd.ntmps46
    go_wp2_with (go_at_call 63; refine (HC.out _ _ (sl_lit [k] (by simp) rfl (by unfold maxLen; simp)) (HE.out.k.below (by repeat (first | with_reducible exact Below.refl _ _ | with_reducible assumption | with_reducible apply Ba | with_reducible apply Bd | with_reducible apply Bn | with_reducible apply Bg | (with_reducible refine Bs ?_ (by first | (simp; done) | (simp; omega)) _) | (with_reducible refine Bt ?_ (by assumption)) | (with_reducible refine Bt ?_ (Gr.below (by assumption))))))).mono ?_; rintro e w1 ⟨rfl, hg1⟩)
    go_ret
    exact ⟨rfl, (by repeat (first | with_reducible exact Gr.refl _ | with_reducible assumption | with_reducible apply Gr.alloc | with_reducible apply Gr.drewN | with_reducible apply Gr.drew | with_reducible apply Gr.grow | (with_reducible refine Gr.trans ?_ (by assumption))))⟩
  · obtain ⟨a1, a2, b1, b2, hr⟩ := rngV_parts k
    have e : chk (k, a, b) = if inV a (a1, a2) && inV b (b1, b2) then 0 else 1 := by simp [chk, hk, hr]
    rw [e]
    obtain ⟨m, hm⟩ : ∃ m : Nat, m = foldN true 0 [k] := ⟨_, rfl⟩
    have HC : Hid (∀ W v, Sl encI W v [k] → ErrK W (A 4) → Calls Tryd.prog 63 #[v] W fun e w' => e = .returned (.tuple #[.int .u64 m, .nilIface]) ∧ Gr W w') := fun W v h1 h2 => by
      have := of_call [k] v (A 4) W h1 h2
      rwa [resK_yes (by simp [hk]), ← hm] at this
    have HS : Hid (∀ W, Calls Tryd.prog 66 #[.int .i64 k] W fun e w' => e = .returned (.tuple #[.agg #[.int .i64 a1, .int .i64 a2], .agg #[.int .i64 b1, .int .i64 b2]]) ∧ Gr W w') := fun W => by
      have := spans_any k W
      unfold rngA at this
      rwa [hr] at this
    clear e hm hr
    cases ha : inV a (a1, a2)
    · simp only [Bool.false_and, Bool.false_eq_true, if_false]
      rw [errV_at A 1 (by decide)]
      have HA : Hid (∀ W, Calls Tryd.prog 67 #[.agg #[.int .i64 a1, .int .i64 a2], .int .i64 a] W fun e w' => e = .returned (.bool false) ∧ Gr W w') := fun W => by
        have := has_any a1 a2 a W
        rwa [ha] at this
      clear ha
      go_enter Tryd.func46, Tryd.ntmps46
      go_wp2_with (first
        | (go_at_call 63; refine (HC.out _ _ (sl_lit [k] (by simp) rfl (by unfold maxLen; simp)) (HE.out.k.below (by repeat (first | with_reducible exact Below.refl _ _ | with_reducible assumption | with_reducible apply Ba | with_reducible apply Bd | with_reducible apply Bn | with_reducible apply Bg | (with_reducible refine Bs ?_ (by first | (simp; done) | (simp; omega)) _) | (with_reducible refine Bt ?_ (by assumption)) | (with_reducible refine Bt ?_ (Gr.below (by assumption))))))).mono ?_; rintro e w1 ⟨rfl, hg1⟩; have b1' := hg1.below; have c0 : w1.cell? ⟨w.heap.size, 0, none⟩ = some (.int .i64 k) := Bc b1' (by simp; omega) (by simp); have c1 : w1.cell? ⟨w.heap.size, 1, none⟩ = some (.int .i64 a) := Bc b1' (by simp; omega) (by simp); have hl1 : w.heap.size < w1.heap.size := Bl b1' (by simp; omega); have E1 := Lib.hid (HE.out.below (w' := w1) (by repeat (first | with_reducible exact Below.refl _ _ | with_reducible assumption | with_reducible apply Ba | with_reducible apply Bd | with_reducible apply Bn | with_reducible apply Bg | (with_reducible refine Bs ?_ (by first | (simp; done) | (simp; omega)) _) | (with_reducible refine Bt ?_ (by assumption)) | (with_reducible refine Bt ?_ (Gr.below (by assumption)))))); clear b1')
        | (go_at_call 66; refine (HS.out _).mono ?_; rintro e w2 ⟨rfl, hg2⟩; have b2' := hg2.below; have d1 : w2.cell? ⟨w.heap.size, 1, none⟩ = some (.int .i64 a) := Bc b2' hl1 c1; have hl2 : w.heap.size < w2.heap.size := Bl b2' hl1; have E2 := Lib.hid (E1.out.below b2'); clear b2')
        | (go_at_call 67; refine (HA.out _).mono ?_; rintro e w3 ⟨rfl, hg3⟩; have r3 := (E2.out.below (w' := w3) (by repeat (first | with_reducible exact Below.refl _ _ | with_reducible assumption | with_reducible apply Ba | with_reducible apply Bd | with_reducible apply Bn | with_reducible apply Bg | (with_reducible refine Bs ?_ (by first | (simp; done) | (simp; omega)) _) | (with_reducible refine Bt ?_ (by assumption)) | (with_reducible refine Bt ?_ (Gr.below (by assumption)))))).range))
      go_ret
      exact ⟨rfl, (by repeat (first | with_reducible exact Gr.refl _ | with_reducible assumption | with_reducible apply Gr.alloc | with_reducible apply Gr.drewN | with_reducible apply Gr.drew | with_reducible apply Gr.grow | (with_reducible refine Gr.trans ?_ (by assumption))))⟩
    · simp only [Bool.true_and]
      generalize hq : inV b (b1, b2) = q
      cases q
      · rw [if_neg (by simp), errV_at A 1 (by decide)]
        go_enter Tryd.func46, Tryd.ntmps46
        go_wp2_with (first
          | (go_at_call 63; refine (HC.out _ _ (sl_lit [k] (by simp) rfl (by unfold maxLen; simp)) (HE.out.k.below (by repeat (first | with_reducible exact Below.refl _ _ | with_reducible assumption | with_reducible apply Ba | with_reducible apply Bd | with_reducible apply Bn | with_reducible apply Bg | (with_reducible refine Bs ?_ (by first | (simp; done) | (simp; omega)) _) | (with_reducible refine Bt ?_ (by assumption)) | (with_reducible refine Bt ?_ (Gr.below (by assumption))))))).mono ?_; rintro e w1 ⟨rfl, hg1⟩; have b1' := hg1.below; have c0 : w1.cell? ⟨w.heap.size, 0, none⟩ = some (.int .i64 k) := Bc b1' (by simp; omega) (by simp); have c1 : w1.cell? ⟨w.heap.size, 1, none⟩ = some (.int .i64 a) := Bc b1' (by simp; omega) (by simp); have c2 : w1.cell? ⟨w.heap.size, 2, none⟩ = some (.int .i64 b) := Bc b1' (by simp; omega) (by simp); have hl1 : w.heap.size < w1.heap.size := Bl b1' (by simp; omega); have E1 := Lib.hid (HE.out.below (w' := w1) (by repeat (first | with_reducible exact Below.refl _ _ | with_reducible assumption | with_reducible apply Ba | with_reducible apply Bd | with_reducible apply Bn | with_reducible apply Bg | (with_reducible refine Bs ?_ (by first | (simp; done) | (simp; omega)) _) | (with_reducible refine Bt ?_ (by assumption)) | (with_reducible refine Bt ?_ (Gr.below (by assumption)))))); clear b1')
          | (go_at_call 66; refine (HS.out _).mono ?_; rintro e w2 ⟨rfl, hg2⟩; have b2' := hg2.below; have d1 : w2.cell? ⟨w.heap.size, 1, none⟩ = some (.int .i64 a) := Bc b2' hl1 c1; have d2 : w2.cell? ⟨w.heap.size, 2, none⟩ = some (.int .i64 b) := Bc b2' hl1 c2; have hl2 : w.heap.size < w2.heap.size := Bl b2' hl1; have E2 := Lib.hid (E1.out.below b2'); clear b2' c0 c1 c2)
          | (go_at_call 67; refine (has_any _ _ _ _).mono ?_; rintro e w3 ⟨rfl, hg3⟩; have b3 := hg3.below; have f2 : w3.cell? ⟨w.heap.size, 2, none⟩ = some (.int .i64 b) := Bc (W := w2) (by repeat (first | with_reducible exact Below.refl _ _ | with_reducible assumption | with_reducible apply Ba | with_reducible apply Bd | with_reducible apply Bn | with_reducible apply Bg | (with_reducible refine Bs ?_ (by first | (simp; done) | (simp; omega)) _) | (with_reducible refine Bt ?_ (by assumption)) | (with_reducible refine Bt ?_ (Gr.below (by assumption))))) hl2 d2; have f3 : w3.cell? ⟨w2.heap.size + 1, 0, none⟩ = some (.int .i64 b1) := Bc b3 (by simp) (by simp); have f4 : w3.cell? ⟨w2.heap.size + 1, 1, none⟩ = some (.int .i64 b2) := Bc b3 (by simp) (by simp); have E3 := Lib.hid (E2.out.below (w' := w3) (by repeat (first | with_reducible exact Below.refl _ _ | with_reducible assumption | with_reducible apply Ba | with_reducible apply Bd | with_reducible apply Bn | with_reducible apply Bg | (with_reducible refine Bs ?_ (by first | (simp; done) | (simp; omega)) _) | (with_reducible refine Bt ?_ (by assumption)) | (with_reducible refine Bt ?_ (Gr.below (by assumption)))))); clear b3)
          | (go_at_call 67; refine (has_any _ _ _ _).mono ?_; rintro e w4 ⟨rfl, hg4⟩; have r4 := (E3.out.below (w' := w4) hg4.below).range))
        go_ret
        exact ⟨rfl, (by repeat (first | with_reducible exact Gr.refl _ | with_reducible assumption | with_reducible apply Gr.alloc | with_reducible apply Gr.drewN | with_reducible apply Gr.drew | with_reducible apply Gr.grow | (with_reducible refine Gr.trans ?_ (by assumption))))⟩
      · rw [if_pos rfl, errV_no A]
        go_enter Tryd.func46, Tryd.ntmps46
        go_wp2_with (first
          | (go_at_call 63; refine (HC.out _ _ (sl_lit [k] (by simp) rfl (by unfold maxLen; simp)) (HE.out.k.below (by repeat (first | with_reducible exact Below.refl _ _ | with_reducible assumption | with_reducible apply Ba | with_reducible apply Bd | with_reducible apply Bn | with_reducible apply Bg | (with_reducible refine Bs ?_ (by first | (simp; done) | (simp; omega)) _) | (with_reducible refine Bt ?_ (by assumption)) | (with_reducible refine Bt ?_ (Gr.below (by assumption))))))).mono ?_; rintro e w1 ⟨rfl, hg1⟩; have b1' := hg1.below; have c0 : w1.cell? ⟨w.heap.size, 0, none⟩ = some (.int .i64 k) := Bc b1' (by simp; omega) (by simp); have c1 : w1.cell? ⟨w.heap.size, 1, none⟩ = some (.int .i64 a) := Bc b1' (by simp; omega) (by simp); have c2 : w1.cell? ⟨w.heap.size, 2, none⟩ = some (.int .i64 b) := Bc b1' (by simp; omega) (by simp); have hl1 : w.heap.size < w1.heap.size := Bl b1' (by simp; omega); have E1 := Lib.hid (HE.out.below (w' := w1) (by repeat (first | with_reducible exact Below.refl _ _ | with_reducible assumption | with_reducible apply Ba | with_reducible apply Bd | with_reducible apply Bn | with_reducible apply Bg | (with_reducible refine Bs ?_ (by first | (simp; done) | (simp; omega)) _) | (with_reducible refine Bt ?_ (by assumption)) | (with_reducible refine Bt ?_ (Gr.below (by assumption)))))); clear b1')
          | (go_at_call 66; refine (HS.out _).mono ?_; rintro e w2 ⟨rfl, hg2⟩; have b2' := hg2.below; have d1 : w2.cell? ⟨w.heap.size, 1, none⟩ = some (.int .i64 a) := Bc b2' hl1 c1; have d2 : w2.cell? ⟨w.heap.size, 2, none⟩ = some (.int .i64 b) := Bc b2' hl1 c2; have hl2 : w.heap.size < w2.heap.size := Bl b2' hl1; have E2 := Lib.hid (E1.out.below b2'); clear b2' c0 c1 c2)
          | (go_at_call 67; refine (has_any _ _ _ _).mono ?_; rintro e w3 ⟨rfl, hg3⟩; have b3 := hg3.below; have f2 : w3.cell? ⟨w.heap.size, 2, none⟩ = some (.int .i64 b) := Bc (W := w2) (by repeat (first | with_reducible exact Below.refl _ _ | with_reducible assumption | with_reducible apply Ba | with_reducible apply Bd | with_reducible apply Bn | with_reducible apply Bg | (with_reducible refine Bs ?_ (by first | (simp; done) | (simp; omega)) _) | (with_reducible refine Bt ?_ (by assumption)) | (with_reducible refine Bt ?_ (Gr.below (by assumption))))) hl2 d2; have f3 : w3.cell? ⟨w2.heap.size + 1, 0, none⟩ = some (.int .i64 b1) := Bc b3 (by simp) (by simp); have f4 : w3.cell? ⟨w2.heap.size + 1, 1, none⟩ = some (.int .i64 b2) := Bc b3 (by simp) (by simp); have E3 := Lib.hid (E2.out.below (w' := w3) (by repeat (first | with_reducible exact Below.refl _ _ | with_reducible assumption | with_reducible apply Ba | with_reducible apply Bd | with_reducible apply Bn | with_reducible apply Bg | (with_reducible refine Bs ?_ (by first | (simp; done) | (simp; omega)) _) | (with_reducible refine Bt ?_ (by assumption)) | (with_reducible refine Bt ?_ (Gr.below (by assumption)))))); clear b3)
          | (go_at_call 67; refine (has_any _ _ _ _).mono ?_; rintro e w4 ⟨rfl, hg4⟩; have r4 := (E3.out.below (w' := w4) hg4.below).range))
        go_ret
        exact ⟨rfl, (by repeat (first | with_reducible exact Gr.refl _ | with_reducible assumption | with_reducible apply Gr.alloc | with_reducible apply Gr.drewN | with_reducible apply Gr.drew | with_reducible apply Gr.grow | (with_reducible refine Gr.trans ?_ (by assumption))))⟩
end Go.Proofs.YtknfmjjlfhfocaaDoor
