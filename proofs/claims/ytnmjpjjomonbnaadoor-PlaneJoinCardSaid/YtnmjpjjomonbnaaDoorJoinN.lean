/-
  Join of package plane: of no box, and of boxes one of which isn't right: the errors.
-/
import Derived.Test.YtnmjpjjomonbnaaDoorJoin
namespace Go.Proofs.YtnmjpjjomonbnaaDoor
set_option linter.unusedSimpArgs false
set_option linter.unusedVariables false
open Go.RowKit Go.Joins

set_option maxRecDepth 100000 in
set_option maxHeartbeats 1000000 in
theorem join_none (a : Option Addr) (cap : Nat) (w : World) (ea : Addr) (hg : w.cell? ⟨2, 0, none⟩ = some (.iface 82 (.pointer (some ea)))) :
    Calls Tryd.prog 34 #[.slice a 0 cap] w fun e w' => e = .returned (.tuple #[.agg #[.int .i64 0, .int .i64 0, .int .i64 0, .int .i64 0], .iface 82 (.pointer (some ea))]) ∧ Below w.heap.size w w' := by
  have hlt : 2 < w.heap.size := cell_lt hg
  have h1 := Nat.lt_add_right 1 hlt
  go_enter Tryd.func34, Tryd.ntmps34
  go_wp2
  go_region
  go_wp2
  exact bodyPost_ret (v := .tuple #[.agg #[.int .i64 0, .int .i64 0, .int .i64 0, .int .i64 0], .iface 82 (.pointer (some ea))]) (by simp [results, Tryd.results34, go_sem, *]) rfl ⟨rfl, (by repeat (first | exact Below.refl _ _ | apply Ba | apply Bd | apply Bn | (refine Bt ?_ (by assumption)) | (refine Bs ?_ (by first | (simp; done) | (simp; omega)) _)))⟩

set_option maxRecDepth 100000 in
set_option maxHeartbeats 4000000 in
theorem join_form (g off n cap m : Nat) (B : Nat → Bx) (w : World) (ea : Addr) (hg : w.cell? ⟨6, 0, none⟩ = some (.iface 82 (.pointer (some ea)))) (hB : Boxes w g off n B) (hm : m < n) (hn : n ≤ cap) (hc : cap ≤ 1152921504606846975) (hr : ∀ i, i < m → (B i).right = true) (hbad : (B m).right = false) :
    Calls Tryd.prog 34 #[.slice (some ⟨g, off, none⟩) n cap] w fun e w' => e = .returned (.tuple #[.agg #[.int .i64 0, .int .i64 0, .int .i64 0, .int .i64 0], .iface 82 (.pointer (some ea))]) ∧ Below w.heap.size w w' := by
  have h0 : 0 < n := by omega
  have hlg6 : 6 < w.heap.size := cell_lt hg
  have HG := Lib.hid hg
  have HBAD := Lib.hid hbad
  clear hg hbad
  obtain ⟨f1, f2, f3, f4⟩ := hB 0 h0
  have hne : ((n : Int) == 0) = false := by simp; omega
  have hpos : (0 : Int) < (n : Int) := by omega
  have hl1 := cell_lt f1
  have HB := Lib.hid hB
  have HR := Lib.hid hr
  clear hB hr
  simp only [Nat.zero_mul, Nat.add_zero] at f1 f2 f3 f4
  go_enter Tryd.func34, Tryd.ntmps34
  go_wp2
  clear f1 f2 f3 f4 hpos hne
  go_loopw [17] (fun i wr => ∃ k : Nat, k ≤ m ∧ i = .int .i64 k ∧ Below w.heap.size w wr ∧ At4 wr w.heap.size ⟨0, 0, 0, 0⟩ ∧ At4 wr (w.heap.size + 1) (joined B k)) (fun i _ => n - (intOf i).toNat)
  case atStart =>
    refine ⟨0, Nat.zero_le _, rfl, (by repeat (first | exact Below.refl _ _ | apply Ba | apply Bd | apply Bn | (refine Bt ?_ (by assumption)) | (refine Bs ?_ (by first | (simp; done) | (simp; omega)) _))), ?_, ?_⟩
    · exact (At4.new w 0 0 0 0).below (Ba (Below.refl _ _) _)
    · have := At4.new (w.alloc (.cells #[.int .i64 0, .int .i64 0, .int .i64 0, .int .i64 0] 26)) (B 0).a (B 0).b (B 0).c (B 0).d
      rw [show (w.alloc (.cells #[.int .i64 0, .int .i64 0, .int .i64 0, .int .i64 0] 26)).heap.size = w.heap.size + 1 by simp] at this
      exact this
  case round =>
    obtain ⟨k, hk, rfl, hbel, hA, hJ⟩ := hrel
    have hkn : k < n := by omega
    by_cases hkm : k < m
    · obtain ⟨f1, f2, f3, f4⟩ := HB.out.below hl1 hbel k hkn
      have hlg : g < wr.heap.size := Bl hbel hl1
      have hJ' := Lib.hid hJ
      have hA' := Lib.hid hA
      have hbel' := Lib.hid hbel
      clear hA hJ hbel
      go_wp2_with (go_at_call 20; refine (bool_is (HR.out k hkm) (right_any _ _ _ _ _)).mono ?_; rintro e w1 ⟨rfl, hb1⟩)
      have HJ1 : Hid (At4 w1 (w.heap.size + 1) (joined B k)) := hJ'.out.below ((by repeat (first | exact Below.refl _ _ | apply Ba | apply Bd | apply Bn | (refine Bt ?_ (by assumption)) | (refine Bs ?_ (by first | (simp; done) | (simp; omega)) _))) : Below wr.heap.size wr w1)
      have HA1 : Hid (At4 w1 w.heap.size ⟨0, 0, 0, 0⟩) := hA'.out.below ((by repeat (first | exact Below.refl _ _ | apply Ba | apply Bd | apply Bn | (refine Bt ?_ (by assumption)) | (refine Bs ?_ (by first | (simp; done) | (simp; omega)) _))) : Below wr.heap.size wr w1)
      have HQ1 : Hid (At4 w1 wr.heap.size (B k)) := (At4.new wr (B k).a (B k).b (B k).c (B k).d).below hb1
      have HT1 : Hid (Below w.heap.size w w1) := by
        have := hbel'.out
        exact (by repeat (first | exact Below.refl _ _ | apply Ba | apply Bd | apply Bn | (refine Bt ?_ (by assumption)) | (refine Bs ?_ (by first | (simp; done) | (simp; omega)) _)))
      have hne1 : w.heap.size + 1 < wr.heap.size := cell_lt hJ'.out.c0
      have hne2 : ¬ wr.heap.size = w.heap.size + 1 := by omega
      have hne3 : ¬ w.heap.size + 1 = wr.heap.size := by omega
      have j0 := HJ1.out.c0
      have j1 := HJ1.out.c1
      have j2 := HJ1.out.c2
      have j3 := HJ1.out.c3
      have y0 := HJ1.out.z0
      have y1 := HJ1.out.z1
      have y2 := HJ1.out.z2
      have y3 := HJ1.out.z3
      have q0 := HQ1.out.c0
      have q1 := HQ1.out.c1
      have q2 := HQ1.out.c2
      have q3 := HQ1.out.c3
      clear hb1 f1 f2 f3 f4 hJ' hA' hbel' hlg
      have hT1 := HT1.out
      obtain ⟨u0, hu0⟩ : ∃ u, (if (B k).a < (joined B k).a then (B k).a else (joined B k).a) = u := ⟨_, rfl⟩
      obtain ⟨u1, hu1⟩ : ∃ u, (if (B k).b < (joined B k).b then (B k).b else (joined B k).b) = u := ⟨_, rfl⟩
      obtain ⟨u2, hu2⟩ : ∃ u, (if (joined B k).c < (B k).c then (B k).c else (joined B k).c) = u := ⟨_, rfl⟩
      obtain ⟨u3, hu3⟩ : ∃ u, (if (joined B k).d < (B k).d then (B k).d else (joined B k).d) = u := ⟨_, rfl⟩
      have e0 : u0 = min (joined B k).a (B k).a := by rw [← hu0]; split <;> omega
      have e1 : u1 = min (joined B k).b (B k).b := by rw [← hu1]; split <;> omega
      have e2 : u2 = max (joined B k).c (B k).c := by rw [← hu2]; split <;> omega
      have e3 : u3 = max (joined B k).d (B k).d := by rw [← hu3]; split <;> omega
      have E0 := Lib.hid e0
      have E1 := Lib.hid e1
      have E2 := Lib.hid e2
      have E3 := Lib.hid e3
      clear e0 e1 e2 e3
      go_region
      go_wp2
      go_region
      go_wp2
      go_roundw
      case measure => simp [intOf]; omega
      case rel =>
        clear hu0 hu1 hu2 hu3
        refine ⟨k + 1, by omega, by go_num, (by repeat (first | exact Below.refl _ _ | apply Ba | apply Bd | apply Bn | (refine Bt ?_ (by assumption)) | (refine Bs ?_ (by first | (simp; done) | (simp; omega)) _))), ?_, ?_⟩
        · exact (((((HA1.out.far _ (by omega)).far _ (by omega)).far _ (by omega)).far _ (by omega)).drew).drew
        · exact ((((HJ1.out.set01 u0 u1).set23 u2 u3).drew).drew).cast E0.out E1.out E2.out E3.out
    · have hkm' : k = m := by omega
      obtain ⟨f1, f2, f3, f4⟩ := HB.out.below hl1 hbel k hkn
      have hlg : g < wr.heap.size := Bl hbel hl1
      have hJ' := Lib.hid hJ
      have hA' := Lib.hid hA
      have hbel' := Lib.hid hbel
      have hbk : (B k).right = false := by rw [hkm']; exact HBAD.out
      have hbk' := Lib.hid hbk
      clear hA hJ hbel hbk hkm'
      go_wp2_with (go_at_call 20; refine (bool_is hbk'.out (right_any _ _ _ _ _)).mono ?_; rintro e w1 ⟨rfl, hb1⟩)
      have HA1 := hA'.out.below ((by repeat (first | exact Below.refl _ _ | apply Ba | apply Bd | apply Bn | (refine Bt ?_ (by assumption)) | (refine Bs ?_ (by first | (simp; done) | (simp; omega)) _))) : Below wr.heap.size wr w1)
      have hT1 : Below w.heap.size w w1 := by
        have := hbel'.out
        exact (by repeat (first | exact Below.refl _ _ | apply Ba | apply Bd | apply Bn | (refine Bt ?_ (by assumption)) | (refine Bs ?_ (by first | (simp; done) | (simp; omega)) _)))
      have g6 := Bc hT1 hlg6 HG.out
      obtain ⟨c0, c1, c2, c3, z0, z1, z2, z3⟩ := HA1
      clear hb1 f1 f2 f3 f4 hJ' hA' hbel' hlg
      go_region
      go_wp2
      exact bodyPost_ret (v := .tuple #[.agg #[.int .i64 0, .int .i64 0, .int .i64 0, .int .i64 0], .iface 82 (.pointer (some ea))]) (by simp [results, Tryd.results34, go_sem, *]) rfl ⟨rfl, (by repeat (first | exact Below.refl _ _ | apply Ba | apply Bd | apply Bn | (refine Bt ?_ (by assumption)) | (refine Bs ?_ (by first | (simp; done) | (simp; omega)) _)))⟩

end Go.Proofs.YtnmjpjjomonbnaaDoor
