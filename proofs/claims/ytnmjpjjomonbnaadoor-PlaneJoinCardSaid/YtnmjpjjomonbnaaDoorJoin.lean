/-
  Join of package plane: of boxes that are all right the least one in which all lie; else an error.
-/
import Derived.Test.YtnmjpjjomonbnaaDoorPlaneD
import Derived.Deep.LoopGhost
import Derived.Deep.DeepCutAuto
import Derived.Lib.SmallJoins
import Derived.BigRegion
namespace Go.Proofs.YtnmjpjjomonbnaaDoor
set_option linter.unusedSimpArgs false
set_option linter.unusedVariables false
open Go.RowKit Go.Joins

structure Bx where
  a : Int
  b : Int
  c : Int
  d : Int
def Bx.right (x : Bx) : Bool := rightB x.a x.b x.c x.d
def Bx.join (x y : Bx) : Bx := ⟨min x.a y.a, min x.b y.b, max x.c y.c, max x.d y.d⟩

/-- The n boxes of a slice, cell by cell. -/
def Boxes (w : World) (g off n : Nat) (B : Nat → Bx) : Prop :=
  ∀ i, i < n → w.cell? ⟨g, off + i * 4, none⟩ = some (.int .i64 (B i).a) ∧ w.cell? ⟨g, off + i * 4 + 1, none⟩ = some (.int .i64 (B i).b) ∧ w.cell? ⟨g, off + i * 4 + 2, none⟩ = some (.int .i64 (B i).c) ∧ w.cell? ⟨g, off + i * 4 + 3, none⟩ = some (.int .i64 (B i).d)

/-- What the loop has joined behind k rounds. -/
def joined (B : Nat → Bx) : Nat → Bx
  | 0 => B 0
  | k + 1 => (joined B k).join (B k)

/-- Block b holds the box x, and may be written. -/
structure At4 (w : World) (b : Nat) (x : Bx) : Prop where
  c0 : w.cell? ⟨b, 0, none⟩ = some (.int .i64 x.a)
  c1 : w.cell? ⟨b, 1, none⟩ = some (.int .i64 x.b)
  c2 : w.cell? ⟨b, 2, none⟩ = some (.int .i64 x.c)
  c3 : w.cell? ⟨b, 3, none⟩ = some (.int .i64 x.d)
  z0 : w.frozen? ⟨b, 0, none⟩ = false
  z1 : w.frozen? ⟨b, 1, none⟩ = false
  z2 : w.frozen? ⟨b, 2, none⟩ = false
  z3 : w.frozen? ⟨b, 3, none⟩ = false
theorem Bf {W W1 : World} {b o : Nat} {v : Bool} (hb : Below W.heap.size W W1) (hl : b < W.heap.size) (hc : W.frozen? ⟨b, o, none⟩ = v) : W1.frozen? ⟨b, o, none⟩ = v := (hb.frozen (p := ⟨b, o, none⟩) hl).trans hc
theorem At4.below {W W' : World} {b : Nat} {x : Bx} (h : At4 W b x) (hb : Below W.heap.size W W') : At4 W' b x :=
  have hl := cell_lt h.c0
  ⟨Bc hb hl h.c0, Bc hb hl h.c1, Bc hb hl h.c2, Bc hb hl h.c3, Bf hb hl h.z0, Bf hb hl h.z1, Bf hb hl h.z2, Bf hb hl h.z3⟩
theorem At4.drew {W : World} {b : Nat} {x : Bx} (h : At4 W b x) : At4 W.drew b x := ⟨h.c0, h.c1, h.c2, h.c3, h.z0, h.z1, h.z2, h.z3⟩
theorem At4.far {W : World} {b b' o : Nat} {x : Bx} (h : At4 W b x) (v : Value) (hne : b ≠ b') : At4 (W.setCell ⟨b', o, none⟩ v) b x := by
  have k : (W.setCell ⟨b', o, none⟩ v).heap[b]? = W.heap[b]? := Below.heap_setCell W ⟨b', o, none⟩ v b hne
  exact ⟨(World.cell?_of_block (w := W) k).trans h.c0, (World.cell?_of_block (w := W) k).trans h.c1, (World.cell?_of_block (w := W) k).trans h.c2, (World.cell?_of_block (w := W) k).trans h.c3,
    (World.frozen?_of_block (w := W) k).trans h.z0, (World.frozen?_of_block (w := W) k).trans h.z1, (World.frozen?_of_block (w := W) k).trans h.z2, (World.frozen?_of_block (w := W) k).trans h.z3⟩
theorem At4.set01 {W : World} {b : Nat} {x : Bx} (h : At4 W b x) (u v : Int) : At4 ((W.setCell ⟨b, 0, none⟩ (.int .i64 u)).setCell ⟨b, 1, none⟩ (.int .i64 v)) b ⟨u, v, x.c, x.d⟩ := by
  obtain ⟨c0, c1, c2, c3, z0, z1, z2, z3⟩ := h
  constructor <;> go_simp
theorem At4.set23 {W : World} {b : Nat} {x : Bx} (h : At4 W b x) (u v : Int) : At4 ((W.setCell ⟨b, 2, none⟩ (.int .i64 u)).setCell ⟨b, 3, none⟩ (.int .i64 v)) b ⟨x.a, x.b, u, v⟩ := by
  obtain ⟨c0, c1, c2, c3, z0, z1, z2, z3⟩ := h
  constructor <;> go_simp
theorem At4.cast {W : World} {b : Nat} {x y : Bx} (h : At4 W b x) (ha : x.a = y.a) (hb : x.b = y.b) (hc : x.c = y.c) (hd : x.d = y.d) : At4 W b y := by
  cases x
  cases y
  simp only at ha hb hc hd
  subst ha hb hc hd
  exact h
theorem At4.new (W : World) (a b c d : Int) : At4 (W.alloc (.cells #[.int .i64 a, .int .i64 b, .int .i64 c, .int .i64 d] 26)) W.heap.size ⟨a, b, c, d⟩ := by
  constructor <;> go_simp

theorem Boxes.below {w w' : World} {g off n : Nat} {B : Nat → Bx} (h : Boxes w g off n B) (hg : g < w.heap.size) (hb : Below w.heap.size w w') : Boxes w' g off n B := fun i hi =>
  have k := h i hi
  ⟨Bc hb hg k.1, Bc hb hg k.2.1, Bc hb hg k.2.2.1, Bc hb hg k.2.2.2⟩

set_option maxRecDepth 100000 in
set_option maxHeartbeats 4000000 in
theorem join_yes (g off n cap : Nat) (B : Nat → Bx) (w : World) (hB : Boxes w g off n B) (h0 : 0 < n) (hn : n ≤ cap) (hc : cap ≤ 1152921504606846975) (hr : ∀ i, i < n → (B i).right = true) :
    Calls Tryd.prog 34 #[.slice (some ⟨g, off, none⟩) n cap] w fun e w' => e = .returned (.tuple #[.agg #[.int .i64 (joined B n).a, .int .i64 (joined B n).b, .int .i64 (joined B n).c, .int .i64 (joined B n).d], .nilIface]) ∧ Below w.heap.size w w' := by
  obtain ⟨f1, f2, f3, f4⟩ := hB 0 h0
  have hne : ((n : Int) == 0) = false := by simp; omega
  have hpos : (0 : Int) < (n : Int) := by omega
  have hl1 := cell_lt f1
  have HB := Lib.hid hB
  have HR := Lib.hid hr
  clear hB hr
  simp only [Nat.zero_mul, Nat.add_zero] at f1 f2 f3 f4
  go_enter Tryd.func34, Tryd.ntmps34
  go_wp2
  clear f1 f2 f3 f4 hpos hne
  go_loopw [17] (fun i wr => ∃ k : Nat, k ≤ n ∧ i = .int .i64 k ∧ Below w.heap.size w wr ∧ At4 wr w.heap.size ⟨0, 0, 0, 0⟩ ∧ At4 wr (w.heap.size + 1) (joined B k)) (fun i _ => n - (intOf i).toNat)
  case atStart =>
    refine ⟨0, Nat.zero_le _, rfl, (by repeat (first | exact Below.refl _ _ | apply Ba | apply Bd | apply Bn | (refine Bt ?_ (by assumption)) | (refine Bs ?_ (by first | (simp; done) | (simp; omega)) _))), ?_, ?_⟩
    · exact (At4.new w 0 0 0 0).below (Ba (Below.refl _ _) _)
    · have := At4.new (w.alloc (.cells #[.int .i64 0, .int .i64 0, .int .i64 0, .int .i64 0] 26)) (B 0).a (B 0).b (B 0).c (B 0).d
      rw [show (w.alloc (.cells #[.int .i64 0, .int .i64 0, .int .i64 0, .int .i64 0] 26)).heap.size = w.heap.size + 1 by simp] at this
      exact this
  case round =>
    obtain ⟨k, hk, rfl, hbel, hA, hJ⟩ := hrel
    by_cases hkn : k < n
    · obtain ⟨f1, f2, f3, f4⟩ := HB.out.below hl1 hbel k hkn
      have hlg : g < wr.heap.size := Bl hbel hl1
      have hJ' := Lib.hid hJ
      have hA' := Lib.hid hA
      have hbel' := Lib.hid hbel
      clear hA hJ hbel
      go_wp2_with (go_at_call 20; refine (bool_is (HR.out k hkn) (right_any _ _ _ _ _)).mono ?_; rintro e w1 ⟨rfl, hb1⟩)
      have HJ1 : Hid (At4 w1 (w.heap.size + 1) (joined B k)) := hJ'.out.below ((by repeat (first | exact Below.refl _ _ | apply Ba | apply Bd | apply Bn | (refine Bt ?_ (by assumption)) | (refine Bs ?_ (by first | (simp; done) | (simp; omega)) _))) : Below wr.heap.size wr w1)
      have HA1 : Hid (At4 w1 w.heap.size ⟨0, 0, 0, 0⟩) := hA'.out.below ((by repeat (first | exact Below.refl _ _ | apply Ba | apply Bd | apply Bn | (refine Bt ?_ (by assumption)) | (refine Bs ?_ (by first | (simp; done) | (simp; omega)) _))) : Below wr.heap.size wr w1)
      have HQ1 : Hid (At4 w1 wr.heap.size (B k)) := (At4.new wr (B k).a (B k).b (B k).c (B k).d).below hb1
      have HT1 : Hid (Below w.heap.size w w1) := by
        have := hbel'.out
        exact (by repeat (first | exact Below.refl _ _ | apply Ba | apply Bd | apply Bn | (refine Bt ?_ (by assumption)) | (refine Bs ?_ (by first | (simp; done) | (simp; omega)) _)))
      have hne1 : w.heap.size + 1 < wr.heap.size := cell_lt hJ'.out.c0
      have hne2 : ¬ wr.heap.size = w.heap.size + 1 := by omega
      have hne3 : ¬ w.heap.size + 1 = wr.heap.size := by omega
      have j0 := HJ1.out.c0
      have j1 := HJ1.out.c1
      have j2 := HJ1.out.c2
      have j3 := HJ1.out.c3
      have y0 := HJ1.out.z0
      have y1 := HJ1.out.z1
      have y2 := HJ1.out.z2
      have y3 := HJ1.out.z3
      have q0 := HQ1.out.c0
      have q1 := HQ1.out.c1
      have q2 := HQ1.out.c2
      have q3 := HQ1.out.c3
      clear hb1 f1 f2 f3 f4 hJ' hA' hbel' hlg
      have hT1 := HT1.out
      obtain ⟨u0, hu0⟩ : ∃ u, (if (B k).a < (joined B k).a then (B k).a else (joined B k).a) = u := ⟨_, rfl⟩
      obtain ⟨u1, hu1⟩ : ∃ u, (if (B k).b < (joined B k).b then (B k).b else (joined B k).b) = u := ⟨_, rfl⟩
      obtain ⟨u2, hu2⟩ : ∃ u, (if (joined B k).c < (B k).c then (B k).c else (joined B k).c) = u := ⟨_, rfl⟩
      obtain ⟨u3, hu3⟩ : ∃ u, (if (joined B k).d < (B k).d then (B k).d else (joined B k).d) = u := ⟨_, rfl⟩
      have e0 : u0 = min (joined B k).a (B k).a := by rw [← hu0]; split <;> omega
      have e1 : u1 = min (joined B k).b (B k).b := by rw [← hu1]; split <;> omega
      have e2 : u2 = max (joined B k).c (B k).c := by rw [← hu2]; split <;> omega
      have e3 : u3 = max (joined B k).d (B k).d := by rw [← hu3]; split <;> omega
      have E0 := Lib.hid e0
      have E1 := Lib.hid e1
      have E2 := Lib.hid e2
      have E3 := Lib.hid e3
      clear e0 e1 e2 e3
      go_region
      go_wp2
      go_region
      go_wp2
      go_roundw
      case measure => simp [intOf]; omega
      case rel =>
        clear hu0 hu1 hu2 hu3
        refine ⟨k + 1, by omega, by go_num, (by repeat (first | exact Below.refl _ _ | apply Ba | apply Bd | apply Bn | (refine Bt ?_ (by assumption)) | (refine Bs ?_ (by first | (simp; done) | (simp; omega)) _))), ?_, ?_⟩
        · exact (((((HA1.out.far _ (by omega)).far _ (by omega)).far _ (by omega)).far _ (by omega)).drew).drew
        · exact ((((HJ1.out.set01 u0 u1).set23 u2 u3).drew).drew).cast E0.out E1.out E2.out E3.out
    · have hkn' : k = n := by omega
      subst hkn'
      obtain ⟨c0, c1, c2, c3, _, _, _, _⟩ := hJ
      obtain ⟨d0, d1, d2, d3, z0, z1, z2, z3⟩ := hA
      go_wp2
      exact bodyPost_ret (v := .tuple #[.agg #[.int .i64 (joined B k).a, .int .i64 (joined B k).b, .int .i64 (joined B k).c, .int .i64 (joined B k).d], .nilIface]) (by simp [results, Tryd.results34, go_sem, *]) rfl ⟨rfl, (by repeat (first | exact Below.refl _ _ | apply Ba | apply Bd | apply Bn | (refine Bt ?_ (by assumption)) | (refine Bs ?_ (by first | (simp; done) | (simp; omega)) _)))⟩

end Go.Proofs.YtnmjpjjomonbnaaDoor
