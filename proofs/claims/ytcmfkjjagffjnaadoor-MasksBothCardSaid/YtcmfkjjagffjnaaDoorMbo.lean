/-
  MasksBoth: a mask fits two pairs of masks together just if it fits both.
-/
import Derived.Test.YtcmfkjjagffjnaaDoorAl3
namespace Go.Proofs.YtcmfkjjagffjnaaDoor
set_option linter.unusedSimpArgs false
set_option linter.unusedVariables false
open Go.RowKit Go.Sort Go.Lib Go.Shelf

theorem fitC (m a b : Nat) (hm : m < 18446744073709551616) (ha : a < 18446744073709551616) (hb : b < 18446744073709551616) (w : World) : Calls Tryd.prog 27 #[.int .u64 m, .int .u64 a, .int .u64 b] w fun e w' => e = .returned (.bool (fitN m a b)) ∧ w = w' := fits_any m a b hm ha hb w

theorem notN {m : Nat} (hm : m < 18446744073709551616) : bits .xor .u64 IntKind.u64.max (m : Int) = ((18446744073709551615 - m : Nat) : Int) := by
  have h := bits_xor_u64_nat 18446744073709551615 m (by decide) hm
  have e : 18446744073709551615 ^^^ m = 18446744073709551615 - m := tb_ext (Nat.lt_of_lt_of_le (Nat.xor_lt_two_pow (n := 64) (by decide) hm) (Nat.le_refl _)) (by omega) fun i hi => by
    rw [Nat.testBit_xor, show 18446744073709551615 - m = 2 ^ 64 - (m + 1) by omega, Nat.testBit_two_pow_sub_succ hm, show (18446744073709551615 : Nat) = 2 ^ 64 - 1 from rfl, Nat.testBit_two_pow_sub_one]
    simp [hi]
  rw [e] at h
  exact h
theorem fitC_is {m a b : Nat} {v : Bool} (h : fitN m a b = v) (hm : m < 18446744073709551616) (ha : a < 18446744073709551616) (hb : b < 18446744073709551616) (w : World) : Calls Tryd.prog 27 #[.int .u64 m, .int .u64 a, .int .u64 b] w fun e w' => e = .returned (.bool v) ∧ w = w' := by
  subst h
  exact fitC m a b hm ha hb w

set_option maxHeartbeats 2000000 in
set_option maxRecDepth 100000 in
theorem masksBoth_walk (m a0 a1 b0 b1 : Nat) (hm : m < 18446744073709551616) (ha0 : a0 < 18446744073709551616) (ha1 : a1 < 18446744073709551616) (hb0 : b0 < 18446744073709551616) (hb1 : b1 < 18446744073709551616) (w : World) (A : Addr) (hE : ErrK w A) :
    Calls Tryd.prog 8 #[.int .u64 m, .agg #[.int .u64 a0, .int .u64 a1], .agg #[.int .u64 b0, .int .u64 b1]] w fun e w' => e = .returned (.bool true) ∧ RowKit.Below w.heap.size w w' := by
  have HE := Lib.hid hE
  have H1 := fitN_both m a0 a1 b0 b1
  have H2 := fitN_self hm
  have H3 := fitN_none m
  have hx := notN hm
  have o0 := u64_or_nat a0 b0 ha0 hb0
  have o1 := u64_or_nat a1 b1 ha1 hb1
  have l0 : a0 ||| b0 < 18446744073709551616 := Nat.or_lt_two_pow (n := 64) ha0 hb0
  have l1 : a1 ||| b1 < 18446744073709551616 := Nat.or_lt_two_pow (n := 64) ha1 hb1
  obtain ⟨c0, hc0⟩ : ∃ c0, c0 = a0 ||| b0 := ⟨_, rfl⟩
  obtain ⟨c1, hc1⟩ : ∃ c1, c1 = a1 ||| b1 := ⟨_, rfl⟩
  have ln : 18446744073709551615 - m < 18446744073709551616 := by omega
  obtain ⟨n, hn⟩ : ∃ n, n = 18446744073709551615 - m := ⟨_, rfl⟩
  rw [← hn] at H2 hx ln
  rw [← hc0] at o0 l0 H1
  rw [← hc1] at o1 l1 H1
  obtain ⟨p, hp⟩ : ∃ p, fitN m a0 a1 = p := ⟨_, rfl⟩
  obtain ⟨q, hq⟩ : ∃ q, fitN m b0 b1 = q := ⟨_, rfl⟩
  rw [hp, hq] at H1
  have C1 := Lib.hid (fun w => fitC_is hp hm ha0 ha1 w)
  have C2 := Lib.hid (fun w => fitC_is hq hm hb0 hb1 w)
  have C3 := Lib.hid (fun w => fitC_is H1 hm l0 l1 w)
  have C4 := Lib.hid (fun w => fitC_is H2 hm hm ln w)
  have C5 := Lib.hid (fun w => fitC_is H3 hm (by decide) (by decide) w)
  clear hE hc0 hc1 hp hq H1 H2 H3 hn
  cases p <;> cases q
  all_goals
    go_enter Tryd.func8, Tryd.ntmps8
    go_wp2_with fail
    refine (alive_any _ A (HE.out.below (Ba (Ba (Below.refl _ w) _) _))).mono ?_
    rintro e w1 ⟨rfl, hg1⟩
    have hb1 := hg1.below
    obtain ⟨hc1, hf1⟩ := bcell hb1
    have x0 : w1.cell? ⟨w.heap.size, 0, none⟩ = some (.int .u64 a0) := by rw [hc1 _ _ (by go_simp)]; go_simp
    have x1 : w1.cell? ⟨w.heap.size, 1, none⟩ = some (.int .u64 a1) := by rw [hc1 _ _ (by go_simp)]; go_simp
    have x2 : w1.cell? ⟨w.heap.size + 1, 0, none⟩ = some (.int .u64 b0) := by rw [hc1 _ _ (by go_simp)]; go_simp
    have x3 : w1.cell? ⟨w.heap.size + 1, 1, none⟩ = some (.int .u64 b1) := by rw [hc1 _ _ (by go_simp)]; go_simp
    clear hc1 hf1
    have HB := Lib.hid (show RowKit.Below w.heap.size w w1 from (by repeat (first | with_reducible exact Below.refl _ _ | with_reducible assumption | with_reducible apply Ba | with_reducible apply Bd | with_reducible apply Bn | with_reducible apply Bg | (with_reducible refine Bs ?_ (by first | (simp; done) | (simp; omega)) _) | (with_reducible refine Bt ?_ (by assumption)) | (with_reducible refine Bt ?_ (Gr.below (by assumption))))))
    clear hb1 hg1
    go_wp2_with (first | (go_at_call_of 27 (Value.int .u64 a0); refine (C1.out _).mono ?_; rintro e w1 ⟨rfl, rfl⟩) | (go_at_call_of 27 (Value.int .u64 b0); refine (C2.out _).mono ?_; rintro e w1 ⟨rfl, rfl⟩) | (go_at_call_of 27 (Value.int .u64 c0); refine (C3.out _).mono ?_; rintro e w1 ⟨rfl, rfl⟩) | (go_at_call_of 27 (Value.int .u64 n); refine (C4.out _).mono ?_; rintro e w1 ⟨rfl, rfl⟩) | (go_at_call_of 27 (Value.int .u64 0); refine (C5.out _).mono ?_; rintro e w1 ⟨rfl, rfl⟩))
    go_ret
    exact ⟨ret_bool rfl, HB.out⟩
end Go.Proofs.YtcmfkjjagffjnaaDoor
