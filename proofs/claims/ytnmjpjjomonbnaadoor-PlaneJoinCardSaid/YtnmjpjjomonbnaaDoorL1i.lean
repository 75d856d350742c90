/-
  The walk of the law PlaneJoin, second part: no box; more than 200; boxes one of which isn't right; the whole.
-/
import Derived.Test.YtnmjpjjomonbnaaDoorL1h
namespace Go.Proofs.YtnmjpjjomonbnaaDoor
set_option linter.unusedSimpArgs false
set_option linter.unusedVariables false
open Go.RowKit Go.Joins

def allR (B : Nat → Bx) : Nat → Bool
  | 0 => true
  | k + 1 => allR B k && (B k).right
theorem allR_bad {B : Nat → Bx} {m : Nat} (h : (B m).right = false) : ∀ n, m < n → allR B n = false
  | 0, hn => absurd hn (by omega)
  | n + 1, hn => by
    unfold allR
    by_cases e : m = n
    · subst e
      rw [h]
      simp
    · rw [allR_bad h n (by omega)]
      rfl
theorem first_bad (B : Nat → Bx) : ∀ n, (∀ i, i < n → (B i).right = true) ∨ ∃ m, m < n ∧ (∀ i, i < m → (B i).right = true) ∧ (B m).right = false
  | 0 => .inl (fun i hi => absurd hi (by omega))
  | n + 1 => by
    rcases first_bad B n with h | ⟨m, hm, h1, h2⟩
    · cases e : (B n).right
      · exact .inr ⟨n, by omega, h, e⟩
      · refine .inl (fun i hi => ?_)
        by_cases e' : i = n
        · rw [e', e]
        · exact h i (by omega)
    · exact .inr ⟨m, by omega, h1, h2⟩

theorem planeJoin_big (a : Option Addr) (n cap : Nat) (w : World) (h : 200 < n) :
    Calls Tryd.prog 10 #[.slice a n cap] w fun e w' => e = .returned (.bool true) ∧ Below w.heap.size w w' := by
  have h200 : (200 : Int) < (n : Int) := by omega
  go_enter Tryd.func10, Tryd.ntmps10
  go_wp2_with (go_at_call 14; refine (alive_any _).mono ?_; rintro e w1 ⟨rfl, hb1⟩)
  go_ret
  exact ⟨rfl, (by repeat (first | exact Below.refl _ _ | apply Ba | apply Bd | apply Bn | (refine Bt ?_ (by assumption)) | (refine Bs ?_ (by first | (simp; done) | (simp; omega)) _)))⟩

set_option maxRecDepth 100000 in
set_option maxHeartbeats 1000000 in
theorem planeJoin_none {A : Nat → Addr} (a : Option Addr) (cap : Nat) (w : World) (hE : Errs w A) :
    Calls Tryd.prog 10 #[.slice a 0 cap] w fun e w' => e = .returned (.bool true) ∧ Below w.heap.size w w' := by
  have HG : Hid (w.cell? ⟨2, 0, none⟩ = some (.iface 82 (.pointer (some (A 2))))) := hE.cell 2 (by omega)
  have hlt : 2 < w.heap.size := cell_lt HG.out
  have HE := Lib.hid hE
  clear hE
  go_enter Tryd.func10, Tryd.ntmps10
  go_wp2_with (first
    | (go_at_call 14; refine (alive_any _).mono ?_; rintro e w1 ⟨rfl, hb1⟩)
    | (go_at_call 34; refine (join_none a cap _ (A 2) (Bc ((by repeat (first | exact Below.refl _ _ | apply Ba | apply Bd | apply Bn | (refine Bt ?_ (by assumption)) | (refine Bs ?_ (by first | (simp; done) | (simp; omega)) _))) : Below w.heap.size w _) hlt HG.out)).mono ?_; rintro e w1 ⟨rfl, hb1⟩)
    | (go_at_call 17; refine (num_none (HE.out.below ((by repeat (first | exact Below.refl _ _ | apply Ba | apply Bd | apply Bn | (refine Bt ?_ (by assumption)) | (refine Bs ?_ (by first | (simp; done) | (simp; omega)) _))) : Below w.heap.size w _))).mono ?_; rintro e w1 ⟨rfl, hb1⟩))
  go_ret
  exact ⟨rfl, (by repeat (first | exact Below.refl _ _ | apply Ba | apply Bd | apply Bn | (refine Bt ?_ (by assumption)) | (refine Bs ?_ (by first | (simp; done) | (simp; omega)) _)))⟩

set_option maxRecDepth 100000 in
set_option maxHeartbeats 16000000 in
theorem planeJoin_form {A : Nat → Addr} (g off n cap m : Nat) (B : Nat → Bx) (w : World) (hE : Errs w A) (hB : Boxes w g off n B) (hm : m < n) (h200 : n ≤ 200) (hn : n ≤ cap) (hc : cap ≤ 1152921504606846975) (hr : ∀ i, i < m → (B i).right = true) (hbad : (B m).right = false) :
    Calls Tryd.prog 10 #[.slice (some ⟨g, off, none⟩) n cap] w fun e w' => e = .returned (.bool true) ∧ Below w.heap.size w w' := by
  have h0 : 0 < n := by omega
  have HF : Hid (w.cell? ⟨6, 0, none⟩ = some (.iface 82 (.pointer (some (A 6))))) := hE.cell 6 (by omega)
  have hlf : 6 < w.heap.size := cell_lt HF.out
  have HE := Lib.hid hE
  have hne : ((n : Int) == 0) = false := by simp; omega
  have h200' : ¬ (200 : Int) < (n : Int) := by omega
  have hl1 := cell_lt (hB 0 h0).1
  have HB := Lib.hid hB
  have HR := Lib.hid hr
  have HBAD := Lib.hid hbad
  have HALL : Hid (allR B n = false) := allR_bad hbad n hm
  clear hB hr hE hbad
  go_enter Tryd.func10, Tryd.ntmps10
  go_wp2_with (first
    | (go_at_call 14; refine (alive_any _).mono ?_; rintro e w1 ⟨rfl, hb1⟩)
    | (go_at_call 34; refine (join_form g off n cap m B _ (A 6) (Bc ((by repeat (first | exact Below.refl _ _ | apply Ba | apply Bd | apply Bn | (refine Bt ?_ (by assumption)) | (refine Bs ?_ (by first | (simp; done) | (simp; omega)) _))) : Below w.heap.size w _) hlf HF.out) (HB.out.below hl1 (by repeat (first | exact Below.refl _ _ | apply Ba | apply Bd | apply Bn | (refine Bt ?_ (by assumption)) | (refine Bs ?_ (by first | (simp; done) | (simp; omega)) _)))) hm hn hc HR.out HBAD.out).mono ?_; rintro e w1 ⟨rfl, hb1⟩))
  have hT : Below w.heap.size w w1 := (by repeat (first | exact Below.refl _ _ | apply Ba | apply Bd | apply Bn | (refine Bt ?_ (by assumption)) | (refine Bs ?_ (by first | (simp; done) | (simp; omega)) _)))
  go_loopw [35, 5] (fun i r wr => ∃ k : Nat, k ≤ n ∧ i = .int .i64 k ∧ r = .bool (allR B k) ∧ Below w.heap.size w wr ∧ At4 wr w1.heap.size ⟨0, 0, 0, 0⟩ ∧ ∃ s0 s1 s2 s3 : Bool, AtS wr (w1.heap.size + 1) s0 s1 s2 s3) (fun i _ _ => n - (intOf i).toNat)
  case atStart =>
    refine ⟨0, Nat.zero_le _, rfl, rfl, (by repeat (first | exact Below.refl _ _ | apply Ba | apply Bd | apply Bn | (refine Bt ?_ (by assumption)) | (refine Bs ?_ (by first | (simp; done) | (simp; omega)) _))), ?_, ⟨false, false, false, false, ?_⟩⟩
    · exact (At4.new w1 0 0 0 0).below (Ba (Below.refl _ _) _)
    · have := AtS.new (w1.alloc (.cells #[.int .i64 0, .int .i64 0, .int .i64 0, .int .i64 0] 26))
      rw [show (w1.alloc (.cells #[.int .i64 0, .int .i64 0, .int .i64 0, .int .i64 0] 26)).heap.size = w1.heap.size + 1 by simp] at this
      exact this
  case round =>
    obtain ⟨k, hk, rfl, rfl, hbel, hJ, s0, s1, s2, s3, hS⟩ := hrel
    by_cases hkn : k < n
    · obtain ⟨f1, f2, f3, f4⟩ := HB.out.below hl1 hbel k hkn
      have hlg : g < wr.heap.size := Bl hbel hl1
      have hJ' := Lib.hid hJ
      have hS' := Lib.hid hS
      have hbel' := Lib.hid hbel
      have hsz : w1.heap.size + 1 < wr.heap.size := cell_lt hS.c0
      have hsz0 : w1.heap.size < wr.heap.size := cell_lt hJ.c0
      have hwz : w.heap.size ≤ w1.heap.size := hT.size
      have hn1 : ¬ wr.heap.size = w1.heap.size + 1 := by omega
      have hn2 : ¬ w1.heap.size + 1 = wr.heap.size := by omega
      clear hJ hS hbel hT
      cases hr : allR B k
      · have HN : Hid (false = allR B (k + 1)) := by rw [Hid, allR, hr]; rfl
        go_upto_region 14 with fail
        have HJ2 : Hid (At4 (wr.alloc (.cells #[.int .i64 (B k).a, .int .i64 (B k).b, .int .i64 (B k).c, .int .i64 (B k).d] 26)) w1.heap.size ⟨0, 0, 0, 0⟩) := hJ'.out.below (Ba (Below.refl _ _) _)
        have HS2 : Hid (AtS (wr.alloc (.cells #[.int .i64 (B k).a, .int .i64 (B k).b, .int .i64 (B k).c, .int .i64 (B k).d] 26)) (w1.heap.size + 1) s0 s1 s2 s3) := hS'.out.below (Ba (Below.refl _ _) _)
        have HQ2 : Hid (At4 (wr.alloc (.cells #[.int .i64 (B k).a, .int .i64 (B k).b, .int .i64 (B k).c, .int .i64 (B k).d] 26)) wr.heap.size (B k)) := At4.new wr (B k).a (B k).b (B k).c (B k).d
        have hT2 : Below w.heap.size w (wr.alloc (.cells #[.int .i64 (B k).a, .int .i64 (B k).b, .int .i64 (B k).c, .int .i64 (B k).d] 26)) := by
          have := hbel'.out
          exact (by repeat (first | exact Below.refl _ _ | apply Ba | apply Bd | apply Bn | (refine Bt ?_ (by assumption)) | (refine Bs ?_ (by first | (simp; done) | (simp; omega)) _)))
        generalize wr.alloc (.cells #[.int .i64 (B k).a, .int .i64 (B k).b, .int .i64 (B k).c, .int .i64 (B k).d] 26) = w2 at *
        obtain ⟨j0, j1, j2, j3, _, _, _, _⟩ := HJ2.out
        obtain ⟨q0, q1, q2, q3, _, _, _, _⟩ := HQ2.out
        obtain ⟨t0, t1, t2, t3, z0, z1, z2, z3⟩ := HS2.out
        clear f1 f2 f3 f4 hJ' hS' hbel' hlg hr
        cases s0 <;> cases s1 <;> cases s2 <;> cases s3
        all_goals
          go_wp2
          go_roundw
          case measure => simp [intOf]; omega
          case rel => exact ⟨k + 1, by omega, by go_num, (by rw [← HN.out]), (by repeat (first | exact Below.refl _ _ | apply Ba | apply Bd | apply Bn | (refine Bt ?_ (by assumption)) | (refine Bs ?_ (by first | (simp; done) | (simp; omega)) _))), (((HJ2.out.far _ (by omega)).far _ (by omega)).far _ (by omega)).far _ (by omega), _, _, _, _, HS2.out.set _ _ _ _⟩
      · have HN : Hid (rightB (B k).a (B k).b (B k).c (B k).d = allR B (k + 1)) := by rw [Hid, allR, hr]; rfl
        go_upto_region 14 with (go_at_call 20; refine (right_any _ _ _ _ _).mono ?_; rintro e w2 ⟨rfl, hb1⟩)
        have HJ2 : Hid (At4 w2 w1.heap.size ⟨0, 0, 0, 0⟩) := hJ'.out.below ((by repeat (first | exact Below.refl _ _ | apply Ba | apply Bd | apply Bn | (refine Bt ?_ (by assumption)) | (refine Bs ?_ (by first | (simp; done) | (simp; omega)) _))) : Below wr.heap.size wr w2)
        have HS2 : Hid (AtS w2 (w1.heap.size + 1) s0 s1 s2 s3) := hS'.out.below ((by repeat (first | exact Below.refl _ _ | apply Ba | apply Bd | apply Bn | (refine Bt ?_ (by assumption)) | (refine Bs ?_ (by first | (simp; done) | (simp; omega)) _))) : Below wr.heap.size wr w2)
        have HQ2 : Hid (At4 w2 wr.heap.size (B k)) := (At4.new wr (B k).a (B k).b (B k).c (B k).d).below hb1
        have hT2 : Below w.heap.size w w2 := by
          have := hbel'.out
          exact (by repeat (first | exact Below.refl _ _ | apply Ba | apply Bd | apply Bn | (refine Bt ?_ (by assumption)) | (refine Bs ?_ (by first | (simp; done) | (simp; omega)) _)))
        clear hb1
        obtain ⟨j0, j1, j2, j3, _, _, _, _⟩ := HJ2.out
        obtain ⟨q0, q1, q2, q3, _, _, _, _⟩ := HQ2.out
        obtain ⟨t0, t1, t2, t3, z0, z1, z2, z3⟩ := HS2.out
        clear f1 f2 f3 f4 hJ' hS' hbel' hlg hr
        cases s0 <;> cases s1 <;> cases s2 <;> cases s3
        all_goals
          go_wp2
          go_roundw
          case measure => simp [intOf]; omega
          case rel => exact ⟨k + 1, by omega, by go_num, (by rw [← HN.out]), (by repeat (first | exact Below.refl _ _ | apply Ba | apply Bd | apply Bn | (refine Bt ?_ (by assumption)) | (refine Bs ?_ (by first | (simp; done) | (simp; omega)) _))), (((HJ2.out.far _ (by omega)).far _ (by omega)).far _ (by omega)).far _ (by omega), _, _, _, _, HS2.out.set _ _ _ _⟩
    · have hkn' : k = n := by omega
      have hal : allR B k = false := by rw [hkn']; exact HALL.out
      have hS' := Lib.hid hS
      have hbel' := Lib.hid hbel
      obtain ⟨j0, j1, j2, j3, _, _, _, _⟩ := hJ
      clear hS hbel hkn' hT
      go_wp2_with (go_at_call 17; refine (num_form (HE.out.below hbel'.out)).mono ?_; rintro e w2 ⟨rfl, hb2⟩)
      go_ret
      exact ⟨rfl, (by have := hbel'.out; exact (by repeat (first | exact Below.refl _ _ | apply Ba | apply Bd | apply Bn | (refine Bt ?_ (by assumption)) | (refine Bs ?_ (by first | (simp; done) | (simp; omega)) _))))⟩

theorem planeJoin_walk {A : Nat → Addr} (g off n cap : Nat) (B : Nat → Bx) (w : World) (hE : Errs w A) (hB : Boxes w g off n B) (hn : n ≤ cap) (hc : cap ≤ 1152921504606846975) :
    Calls Tryd.prog 10 #[.slice (some ⟨g, off, none⟩) n cap] w fun e w' => e = .returned (.bool true) ∧ Below w.heap.size w w' := by
  by_cases h : 200 < n
  · exact planeJoin_big _ n cap w h
  by_cases h0 : n = 0
  · subst h0
    exact planeJoin_none _ cap w hE
  rcases first_bad B n with hr | ⟨m, hm, h1, h2⟩
  · exact planeJoin_yes g off n cap B w hB (by omega) (by omega) hn hc hr
  · exact planeJoin_form g off n cap m B w hE hB hm (by omega) hn hc h1 h2

end Go.Proofs.YtnmjpjjomonbnaaDoor
