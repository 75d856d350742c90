/-
  The walk of the law PlaneJoin, first part: plain facts of joined boxes; boxes that are all right.
-/
import Derived.Test.YtnmjpjjomonbnaaDoorJoinN
import Derived.Test.YtnmjpjjomonbnaaDoorL1g
import Derived.Test.YtnmjpjjomonbnaaDoorErr
namespace Go.Proofs.YtnmjpjjomonbnaaDoor
set_option linter.unusedSimpArgs false
set_option linter.unusedVariables false
open Go.RowKit Go.Joins

theorem joined_le (B : Nat → Bx) : ∀ n i, i < n → (joined B n).a ≤ (B i).a ∧ (joined B n).b ≤ (B i).b ∧ (B i).c ≤ (joined B n).c ∧ (B i).d ≤ (joined B n).d
  | 0, _, h => absurd h (by omega)
  | n + 1, i, h => by
    simp only [joined, Bx.join]
    by_cases e : i = n
    · subst e
      omega
    · have := joined_le B n i (by omega)
      omega
theorem joined_at (B : Nat → Bx) : ∀ n, 0 < n → (∃ i, i < n ∧ (B i).a = (joined B n).a) ∧ (∃ i, i < n ∧ (B i).b = (joined B n).b) ∧ (∃ i, i < n ∧ (B i).c = (joined B n).c) ∧ (∃ i, i < n ∧ (B i).d = (joined B n).d)
  | 0, h => absurd h (by omega)
  | 1, _ => ⟨⟨0, by omega, by simp [joined, Bx.join]⟩, ⟨0, by omega, by simp [joined, Bx.join]⟩, ⟨0, by omega, by simp [joined, Bx.join]⟩, ⟨0, by omega, by simp [joined, Bx.join]⟩⟩
  | n + 2, _ => by
    obtain ⟨⟨i1, h1, e1⟩, ⟨i2, h2, e2⟩, ⟨i3, h3, e3⟩, i4, h4, e4⟩ := joined_at B (n + 1) (by omega)
    have f1 : (joined B (n + 2)).a = min (joined B (n + 1)).a (B (n + 1)).a := rfl
    have f2 : (joined B (n + 2)).b = min (joined B (n + 1)).b (B (n + 1)).b := rfl
    have f3 : (joined B (n + 2)).c = max (joined B (n + 1)).c (B (n + 1)).c := rfl
    have f4 : (joined B (n + 2)).d = max (joined B (n + 1)).d (B (n + 1)).d := rfl
    refine ⟨?_, ?_, ?_, ?_⟩
    · by_cases h : (joined B (n + 1)).a ≤ (B (n + 1)).a
      · exact ⟨i1, by omega, by omega⟩
      · exact ⟨n + 1, by omega, by omega⟩
    · by_cases h : (joined B (n + 1)).b ≤ (B (n + 1)).b
      · exact ⟨i2, by omega, by omega⟩
      · exact ⟨n + 1, by omega, by omega⟩
    · by_cases h : (B (n + 1)).c ≤ (joined B (n + 1)).c
      · exact ⟨i3, by omega, by omega⟩
      · exact ⟨n + 1, by omega, by omega⟩
    · by_cases h : (B (n + 1)).d ≤ (joined B (n + 1)).d
      · exact ⟨i4, by omega, by omega⟩
      · exact ⟨n + 1, by omega, by omega⟩
theorem joined_right {B : Nat → Bx} {n : Nat} (h0 : 0 < n) (hr : ∀ i, i < n → (B i).right = true) : (joined B n).right = true := by
  obtain ⟨⟨i1, h1, e1⟩, ⟨i2, h2, e2⟩, ⟨i3, h3, e3⟩, i4, h4, e4⟩ := joined_at B n h0
  have r1 := right_bd (hr i1 h1)
  have r2 := right_bd (hr i2 h2)
  have r3 := right_bd (hr i3 h3)
  have r4 := right_bd (hr i4 h4)
  have l1 := joined_le B n i1 h1
  have l2 := joined_le B n i2 h2
  unfold Bx.right rightB reachB bothB btw
  simp
  omega
theorem joined_inside {B : Nat → Bx} {n : Nat} (h0 : 0 < n) (hr : ∀ i, i < n → (B i).right = true) (i : Nat) (hi : i < n) :
    insideB (B i).a (B i).b (B i).c (B i).d (joined B n).a (joined B n).b (joined B n).c (joined B n).d = true := by
  obtain ⟨l1, l2, l3, l4⟩ := joined_le B n i hi
  exact inside_of (hr i hi) (joined_right h0 hr) l1 l3 l2 l4

/-- Whether one of the first k numbers is x. -/
def met (f : Nat → Int) (x : Int) : Nat → Bool
  | 0 => false
  | k + 1 => met f x k || (f k == x)
theorem met_of {f : Nat → Int} {x : Int} : ∀ n i, i < n → f i = x → met f x n = true
  | 0, _, h, _ => absurd h (by omega)
  | n + 1, i, h, e => by
    unfold met
    by_cases e' : i = n
    · subst e'
      simp [e]
    · rw [met_of n i (by omega) e]
      rfl
theorem met_yes {f : Nat → Int} {x : Int} {k : Nat} (h : met f x k = true) : true = met f x (k + 1) := by
  rw [met, h]
  rfl
theorem met_no {f : Nat → Int} {x : Int} {k : Nat} (h : met f x k = false) : (f k == x) = met f x (k + 1) := by
  rw [met, h]
  rfl

theorem eq_sides (w : World) : (Op.equalIn 10000 53 (.agg #[.bool true, .bool true, .bool true, .bool true]) (.agg #[.bool true, .bool true, .bool true, .bool true])).run Tryd.prog w = .ok true w := by kernel_rfl

theorem first_side {f : Nat → Int} {x : Int} {k : Nat} {b v : Bool} (h : Hid (met f x k = b)) (hv : v = (b || (f k == x))) : v = met f x (k + 1) := by
  rw [met, h.out, hv]

/-- Block b holds four bools, and may be written. -/
structure AtS (w : World) (b : Nat) (s0 s1 s2 s3 : Bool) : Prop where
  c0 : w.cell? ⟨b, 0, none⟩ = some (.bool s0)
  c1 : w.cell? ⟨b, 1, none⟩ = some (.bool s1)
  c2 : w.cell? ⟨b, 2, none⟩ = some (.bool s2)
  c3 : w.cell? ⟨b, 3, none⟩ = some (.bool s3)
  z0 : w.frozen? ⟨b, 0, none⟩ = false
  z1 : w.frozen? ⟨b, 1, none⟩ = false
  z2 : w.frozen? ⟨b, 2, none⟩ = false
  z3 : w.frozen? ⟨b, 3, none⟩ = false
theorem AtS.below {W W' : World} {b : Nat} {s0 s1 s2 s3 : Bool} (h : AtS W b s0 s1 s2 s3) (hb : Below W.heap.size W W') : AtS W' b s0 s1 s2 s3 :=
  have hl := cell_lt h.c0
  ⟨Bc hb hl h.c0, Bc hb hl h.c1, Bc hb hl h.c2, Bc hb hl h.c3, Bf hb hl h.z0, Bf hb hl h.z1, Bf hb hl h.z2, Bf hb hl h.z3⟩
theorem AtS.set {W : World} {b : Nat} {s0 s1 s2 s3 : Bool} (h : AtS W b s0 s1 s2 s3) (t0 t1 t2 t3 : Bool) :
    AtS ((((W.setCell ⟨b, 0, none⟩ (.bool t0)).setCell ⟨b, 1, none⟩ (.bool t1)).setCell ⟨b, 2, none⟩ (.bool t2)).setCell ⟨b, 3, none⟩ (.bool t3)) b t0 t1 t2 t3 := by
  obtain ⟨c0, c1, c2, c3, z0, z1, z2, z3⟩ := h
  constructor <;> go_simp
theorem AtS.cast {W : World} {b : Nat} {s0 s1 s2 s3 t0 t1 t2 t3 : Bool} (h : AtS W b s0 s1 s2 s3) (e0 : s0 = t0) (e1 : s1 = t1) (e2 : s2 = t2) (e3 : s3 = t3) : AtS W b t0 t1 t2 t3 := by
  subst e0 e1 e2 e3
  exact h
theorem AtS.new (W : World) : AtS (W.alloc (.cells #[.bool false, .bool false, .bool false, .bool false] 53)) W.heap.size false false false false := by
  constructor <;> go_simp

set_option maxRecDepth 100000 in
set_option maxHeartbeats 8000000 in
theorem planeJoin_yes (g off n cap : Nat) (B : Nat → Bx) (w : World) (hB : Boxes w g off n B) (h0 : 0 < n) (h200 : n ≤ 200) (hn : n ≤ cap) (hc : cap ≤ 1152921504606846975) (hr : ∀ i, i < n → (B i).right = true) :
    Calls Tryd.prog 10 #[.slice (some ⟨g, off, none⟩) n cap] w fun e w' => e = .returned (.bool true) ∧ Below w.heap.size w w' := by
  have hne : ((n : Int) == 0) = false := by simp; omega
  have h200' : ¬ (200 : Int) < (n : Int) := by omega
  have hl1 := cell_lt (hB 0 h0).1
  have HB := Lib.hid hB
  have HR := Lib.hid hr
  clear hB hr
  go_enter Tryd.func10, Tryd.ntmps10
  go_wp2_with (first
    | (go_at_call 14; refine (alive_any _).mono ?_; rintro e w1 ⟨rfl, hb1⟩)
    | (go_at_call 34; refine (join_yes g off n cap B _ (HB.out.below hl1 (by repeat (first | exact Below.refl _ _ | apply Ba | apply Bd | apply Bn | (refine Bt ?_ (by assumption)) | (refine Bs ?_ (by first | (simp; done) | (simp; omega)) _)))) h0 hn hc HR.out).mono ?_; rintro e w1 ⟨rfl, hb1⟩))
  have hT : Below w.heap.size w w1 := (by repeat (first | exact Below.refl _ _ | apply Ba | apply Bd | apply Bn | (refine Bt ?_ (by assumption)) | (refine Bs ?_ (by first | (simp; done) | (simp; omega)) _)))
  go_loopw [35, 5] (fun i r wr => ∃ k : Nat, k ≤ n ∧ i = .int .i64 k ∧ r = .bool true ∧ Below w.heap.size w wr ∧ At4 wr w1.heap.size (joined B n) ∧ AtS wr (w1.heap.size + 1) (met (fun i => (B i).a) (joined B n).a k) (met (fun i => (B i).b) (joined B n).b k) (met (fun i => (B i).c) (joined B n).c k) (met (fun i => (B i).d) (joined B n).d k)) (fun i _ _ => n - (intOf i).toNat)
  case atStart =>
    refine ⟨0, Nat.zero_le _, rfl, rfl, (by repeat (first | exact Below.refl _ _ | apply Ba | apply Bd | apply Bn | (refine Bt ?_ (by assumption)) | (refine Bs ?_ (by first | (simp; done) | (simp; omega)) _))), ?_, ?_⟩
    · exact (At4.new w1 (joined B n).a (joined B n).b (joined B n).c (joined B n).d).below (Ba (Below.refl _ _) _)
    · have := AtS.new (w1.alloc (.cells #[.int .i64 (joined B n).a, .int .i64 (joined B n).b, .int .i64 (joined B n).c, .int .i64 (joined B n).d] 26))
      rw [show (w1.alloc (.cells #[.int .i64 (joined B n).a, .int .i64 (joined B n).b, .int .i64 (joined B n).c, .int .i64 (joined B n).d] 26)).heap.size = w1.heap.size + 1 by simp] at this
      exact this
  case round =>
    obtain ⟨k, hk, rfl, rfl, hbel, hJ, hS⟩ := hrel
    by_cases hkn : k < n
    · obtain ⟨f1, f2, f3, f4⟩ := HB.out.below hl1 hbel k hkn
      have hlg : g < wr.heap.size := Bl hbel hl1
      have hJ' := Lib.hid hJ
      have hS' := Lib.hid hS
      have hbel' := Lib.hid hbel
      have hT' := Lib.hid hT
      have hsz : w1.heap.size + 1 < wr.heap.size := cell_lt hS.c0
      have hsz0 : w1.heap.size < wr.heap.size := cell_lt hJ.c0
      have hwz : w.heap.size ≤ w1.heap.size := hT.size
      have hn1 : ¬ wr.heap.size = w1.heap.size + 1 := by omega
      have hn2 : ¬ w1.heap.size + 1 = wr.heap.size := by omega
      clear hJ hS hbel hT
      go_upto_region 14 with (go_at_call 20; refine (bool_is (HR.out k hkn) (right_any _ _ _ _ _)).mono ?_; rintro e w2 ⟨rfl, hb1⟩)
      have HJ2 : Hid (At4 w2 w1.heap.size (joined B n)) := hJ'.out.below ((by repeat (first | exact Below.refl _ _ | apply Ba | apply Bd | apply Bn | (refine Bt ?_ (by assumption)) | (refine Bs ?_ (by first | (simp; done) | (simp; omega)) _))) : Below wr.heap.size wr w2)
      have HS2 : Hid (AtS w2 (w1.heap.size + 1) (met (fun i => (B i).a) (joined B n).a k) (met (fun i => (B i).b) (joined B n).b k) (met (fun i => (B i).c) (joined B n).c k) (met (fun i => (B i).d) (joined B n).d k)) := hS'.out.below ((by repeat (first | exact Below.refl _ _ | apply Ba | apply Bd | apply Bn | (refine Bt ?_ (by assumption)) | (refine Bs ?_ (by first | (simp; done) | (simp; omega)) _))) : Below wr.heap.size wr w2)
      have HQ2 : Hid (At4 w2 wr.heap.size (B k)) := (At4.new wr (B k).a (B k).b (B k).c (B k).d).below hb1
      have hT2 : Below w.heap.size w w2 := by
        have := hbel'.out
        exact (by repeat (first | exact Below.refl _ _ | apply Ba | apply Bd | apply Bn | (refine Bt ?_ (by assumption)) | (refine Bs ?_ (by first | (simp; done) | (simp; omega)) _)))
      obtain ⟨j0, j1, j2, j3, _, _, _, _⟩ := HJ2.out
      obtain ⟨q0, q1, q2, q3, _, _, _, _⟩ := HQ2.out
      obtain ⟨s0, s1, s2, s3, z0, z1, z2, z3⟩ := HS2.out
      clear hb1 f1 f2 f3 f4 hJ' hS' hbel' hT' hlg
      cases m0 : (met (fun i => (B i).a) (joined B n).a k) <;> cases m1 : (met (fun i => (B i).b) (joined B n).b k) <;> cases m2 : (met (fun i => (B i).c) (joined B n).c k) <;> cases m3 : (met (fun i => (B i).d) (joined B n).d k)
      all_goals
        rw [m0] at s0
        rw [m1] at s1
        rw [m2] at s2
        rw [m3] at s3
        have M0 := Lib.hid m0
        have M1 := Lib.hid m1
        have M2 := Lib.hid m2
        have M3 := Lib.hid m3
        clear m0 m1 m2 m3
        go_wp2
        go_roundw
        case measure => simp [intOf]; omega
        case rel =>
          refine ⟨k + 1, by omega, by go_num, rfl, (by repeat (first | exact Below.refl _ _ | apply Ba | apply Bd | apply Bn | (refine Bt ?_ (by assumption)) | (refine Bs ?_ (by first | (simp; done) | (simp; omega)) _))), ?_, ?_⟩
          · exact (((HJ2.out.far _ (by omega)).far _ (by omega)).far _ (by omega)).far _ (by omega)
          · exact (HS2.out.set _ _ _ _).cast (first_side M0 (by first | rfl | simp)) (first_side M1 (by first | rfl | simp)) (first_side M2 (by first | rfl | simp)) (first_side M3 (by first | rfl | simp))
    · have hkn' : k = n := by omega
      obtain ⟨⟨i1, h1, e1⟩, ⟨i2, h2, e2⟩, ⟨i3, h3, e3⟩, i4, h4, e4⟩ := joined_at B n h0
      have hS1 : AtS wr (w1.heap.size + 1) true true true true := by
        rw [hkn'] at hS
        exact hS.cast (met_of n i1 h1 e1) (met_of n i2 h2 e2) (met_of n i3 h3 e3) (met_of n i4 h4 e4)
      have hT' := Lib.hid hT
      have hJ' := Lib.hid hJ
      have hS' := Lib.hid hS1
      have hbel' := Lib.hid hbel
      clear hS hS1 hJ hbel hT e1 e2 e3 e4 hkn'
      go_wp2
      go_loopw [97] (fun i wv => ∃ k : Nat, k ≤ n ∧ i = .int .i64 k ∧ Below w.heap.size w wv ∧ At4 wv w1.heap.size (joined B n) ∧ AtS wv (w1.heap.size + 1) true true true true) (fun i _ => n - (intOf i).toNat)
      case atStart => exact ⟨0, Nat.zero_le _, rfl, hbel'.out, hJ'.out, hS'.out⟩
      case round =>
        obtain ⟨l, hl, rfl, hbel, hJ, hS⟩ := hrel
        clear hJ' hS' hbel'
        by_cases hln : l < n
        · obtain ⟨f1, f2, f3, f4⟩ := HB.out.below hl1 hbel l hln
          have hin := Lib.hid (joined_inside h0 HR.out l hln)
          have hlg : g < wr.heap.size := Bl hbel hl1
          have hsz0 : w1.heap.size < wr.heap.size := cell_lt hJ.c0
          have hsz1 := Nat.lt_add_right 1 hsz0
          have hJ1 := Lib.hid hJ
          have hS1 := Lib.hid hS
          have hbel1 := Lib.hid hbel
          obtain ⟨j0, j1, j2, j3, _, _, _, _⟩ := hJ
          clear hS hbel
          go_wp2_with (go_at_call 25; refine (bool_is hin.out (inside_any _ _ _ _ _ _ _ _ _)).mono ?_; rintro e w2 ⟨rfl, hb1⟩)
          go_roundw
          case measure => simp [intOf]; omega
          case rel => exact ⟨l + 1, by omega, by go_num, (by have := hbel1.out; exact (by repeat (first | exact Below.refl _ _ | apply Ba | apply Bd | apply Bn | (refine Bt ?_ (by assumption)) | (refine Bs ?_ (by first | (simp; done) | (simp; omega)) _)))), hJ1.out.below ((by repeat (first | exact Below.refl _ _ | apply Ba | apply Bd | apply Bn | (refine Bt ?_ (by assumption)) | (refine Bs ?_ (by first | (simp; done) | (simp; omega)) _))) : Below wr.heap.size wr w2), hS1.out.below ((by repeat (first | exact Below.refl _ _ | apply Ba | apply Bd | apply Bn | (refine Bt ?_ (by assumption)) | (refine Bs ?_ (by first | (simp; done) | (simp; omega)) _))) : Below wr.heap.size wr w2)⟩
        · obtain ⟨j0, j1, j2, j3, _, _, _, _⟩ := hJ
          obtain ⟨s0, s1, s2, s3, _, _, _, _⟩ := hS
          have heq := eq_sides
          go_wp2
          go_ret
          exact ⟨rfl, (by repeat (first | exact Below.refl _ _ | apply Ba | apply Bd | apply Bn | (refine Bt ?_ (by assumption)) | (refine Bs ?_ (by first | (simp; done) | (simp; omega)) _)))⟩

end Go.Proofs.YtnmjpjjomonbnaaDoor
