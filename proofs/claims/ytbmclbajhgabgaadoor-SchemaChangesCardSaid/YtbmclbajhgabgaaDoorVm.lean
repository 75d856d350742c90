/-
  Moved of the program and of the reference (written by mkvm.py).
-/
import Derived.Test.YtbmclbajhgabgaaDoorVf
namespace Go.Proofs.YtbmclbajhgabgaaDoor
set_option linter.unusedSimpArgs false
set_option linter.unusedVariables false
open Go.RowKit Go.Sort Go.Lib Go.Shelf

theorem Er.below' {w w' : World} {A : Nat → Addr} {B : Nat} (h : Er w A) (hb : RowKit.Below B w w') (hl : 0 < B ∧ 3 < B ∧ 4 < B) : Er w' A :=
  ⟨(hb.cell (p := ⟨0, 0, none⟩) hl.1).trans h.range, (hb.cell (p := ⟨3, 0, none⟩) hl.2.1).trans h.ex, (hb.cell (p := ⟨4, 0, none⟩) hl.2.2).trans h.kind⟩
/-- The error's number of a move, and where it leads. -/
def movN (x : Vl) (dx dy : Int) : Nat := if x.1 = 0 ∧ chk x = 0 then (if chk (0, x.2.1 + dx, x.2.2 + dy) = 0 then 0 else 1) else 5
def movV (x : Vl) (dx dy : Int) : Vl := if movN x dx dy = 0 then (0, x.2.1 + dx, x.2.2 + dy) else (0, 0, 0)
theorem movN_is (x : Vl) (dx dy : Int) : movN x dx dy = 0 ∨ movN x dx dy = 1 ∨ movN x dx dy = 5 := by
  unfold movN
  repeat' split
  all_goals simp
theorem chk_pos1 {a b : Int} (h : chk (0, a, b) ≠ 0) : chk (0, a, b) = 1 := by
  have e : chk (0, a, b) = if inV a (-1048576, 1048576) && inV b (-1048576, 1048576) then 0 else 1 := by simp [chk, kindB, rngV]
  rw [e] at h ⊢
  split
  · rename_i h2; rw [if_pos h2] at h; exact absurd rfl h
  · rfl
theorem wrap_sum {a d : Int} (h : -1048576 ≤ a ∧ a ≤ 1048576) (hd : -9223372036854775808 ≤ d ∧ d ≤ 9223372036854775807) : (IntKind.i64.wrap (a + d) = a + d) ∨ (¬ (-1048576 ≤ IntKind.i64.wrap (a + d) ∧ IntKind.i64.wrap (a + d) ≤ 1048576) ∧ ¬ (-1048576 ≤ a + d ∧ a + d ≤ 1048576)) := by
  rw [IntKind.wrap_i64]
  omega
theorem wrap_chk {a b dx dy : Int} (h : chk (0, a, b) = 0) (hx : -9223372036854775808 ≤ dx ∧ dx ≤ 9223372036854775807) (hy : -9223372036854775808 ≤ dy ∧ dy ≤ 9223372036854775807) :
    (chk (0, IntKind.i64.wrap (a + dx), IntKind.i64.wrap (b + dy)) = 0 ↔ chk (0, a + dx, b + dy) = 0) ∧ (chk (0, a + dx, b + dy) = 0 → IntKind.i64.wrap (a + dx) = a + dx ∧ IntKind.i64.wrap (b + dy) = b + dy) := by
  have h1 := chk_pos.1 h
  have p := wrap_sum h1.1 hx
  have q := wrap_sum h1.2 hy
  rw [chk_pos, chk_pos]
  generalize IntKind.i64.wrap (a + dx) = u at *
  generalize IntKind.i64.wrap (b + dy) = v at *
  generalize a + dx = s at *
  generalize b + dy = t at *
  omega

set_option maxHeartbeats 2000000 in
set_option maxRecDepth 100000 in
theorem moved_call (x : Vl) (dx dy : Int) (A : Nat → Addr) (w : World) (hE : Er w A) (hx : -9223372036854775808 ≤ dx ∧ dx ≤ 9223372036854775807) (hy : -9223372036854775808 ≤ dy ∧ dy ≤ 9223372036854775807) :
    Calls Tryd.prog 31 #[aggV x, .int .i64 dx, .int .i64 dy] w fun e w' => e = .returned (.tuple #[aggV (movV x dx dy), errV A (movN x dx dy)]) ∧ RowKit.Below w.heap.size w w' := by
  have HE := Lib.hid hE
  have hk0 := hE.kind
  obtain ⟨k, a, b⟩ := x
  by_cases hk : k = 0
  · subst hk
    by_cases hc : chk (0, a, b) = 0
    · have HW : Hid (∀ W, Er W A → Calls Tryd.prog 46 #[.agg #[.int .i64 0, .int .i64 a, .int .i64 b]] W fun e w' => e = .returned (.bool false) ∧ Gr W w') := fun W h => by
        have := wrong_any (0, a, b) A W h
        unfold wrongB at this
        rw [hc] at this
        exact this
      obtain ⟨hw1, hw2⟩ := wrap_chk hc hx hy
      generalize hp : IntKind.i64.wrap (a + dx) = p at *
      generalize hq : IntKind.i64.wrap (b + dy) = q at *
      by_cases hn : chk (0, a + dx, b + dy) = 0
      · obtain ⟨hw3, hw4⟩ := hw2 hn
        have hc2 := hw1.2 hn
        have e1 : movN (0, a, b) dx dy = 0 := by unfold movN; rw [if_pos ⟨rfl, hc⟩]; dsimp only; rw [if_pos hn]
        have e2 : movV (0, a, b) dx dy = (0, p, q) := by unfold movV; rw [if_pos e1, hw3, hw4]
        rw [e1, e2, errV_no]
        have FC : Hid (∀ W, Er W A → Calls Tryd.prog 12 #[.agg #[.int .i64 0, .int .i64 p, .int .i64 q]] W fun e w' => e = .returned .nilIface ∧ Gr W w') := fun W h => by
          have := check_any (0, p, q) A W h
          rw [hc2, errV_no] at this
          exact this
        clear hc hw1 hw2 hw3 hw4 hn hc2 e1 e2 hx hy hk0 hE
        unfold aggV
        dsimp only
        go_enter Tryd.func31, Tryd.ntmps31
        go_wp2_with fail
        refine (HW.out _ (HE.out.below (w' := (w.alloc (.cells #[.int .i64 0, .int .i64 a, .int .i64 b] 23)).alloc (.cells #[.int .i64 0, .int .i64 0, .int .i64 0] 23)) (by repeat (first | with_reducible exact Below.refl _ _ | with_reducible assumption | with_reducible apply Ba | with_reducible apply Bd | with_reducible apply Bn | with_reducible apply Bg | (with_reducible refine Bs ?_ (by first | (simp; done) | (simp; omega)) _) | (with_reducible refine Bt ?_ (by assumption)) | (with_reducible refine Bt ?_ (Gr.below (by assumption))))))).mono ?_
        rintro e w1 ⟨rfl, hg1⟩
        have xc0 : w1.cell? ⟨w.heap.size, 0, none⟩ = some (.int .i64 0) := Bc hg1.below (by simp; try omega) (by simp)
        have xf0 : w1.frozen? ⟨w.heap.size, 0, none⟩ = false := Bf hg1.below (by simp; try omega) (by simp)
        have xc1 : w1.cell? ⟨w.heap.size, 1, none⟩ = some (.int .i64 a) := Bc hg1.below (by simp; try omega) (by simp)
        have xf1 : w1.frozen? ⟨w.heap.size, 1, none⟩ = false := Bf hg1.below (by simp; try omega) (by simp)
        have xc2 : w1.cell? ⟨w.heap.size, 2, none⟩ = some (.int .i64 b) := Bc hg1.below (by simp; try omega) (by simp)
        have xf2 : w1.frozen? ⟨w.heap.size, 2, none⟩ = false := Bf hg1.below (by simp; try omega) (by simp)
        have rc0 : w1.cell? ⟨w.heap.size + 1, 0, none⟩ = some (.int .i64 0) := Bc hg1.below (by simp; try omega) (by simp)
        have rf0 : w1.frozen? ⟨w.heap.size + 1, 0, none⟩ = false := Bf hg1.below (by simp; try omega) (by simp)
        have rc1 : w1.cell? ⟨w.heap.size + 1, 1, none⟩ = some (.int .i64 0) := Bc hg1.below (by simp; try omega) (by simp)
        have rf1 : w1.frozen? ⟨w.heap.size + 1, 1, none⟩ = false := Bf hg1.below (by simp; try omega) (by simp)
        have rc2 : w1.cell? ⟨w.heap.size + 1, 2, none⟩ = some (.int .i64 0) := Bc hg1.below (by simp; try omega) (by simp)
        have rf2 : w1.frozen? ⟨w.heap.size + 1, 2, none⟩ = false := Bf hg1.below (by simp; try omega) (by simp)
        have hm1 : w.heap.size < w1.heap.size := by have := hg1.below.size; simp at this; omega
        have hl1 : w.heap.size + 1 < w1.heap.size := by have := hg1.below.size; simp at this; omega
        have E1 := Lib.hid (HE.out.below (w' := w1) (by repeat (first | with_reducible exact Below.refl _ _ | with_reducible assumption | with_reducible apply Ba | with_reducible apply Bd | with_reducible apply Bn | with_reducible apply Bg | (with_reducible refine Bs ?_ (by first | (simp; done) | (simp; omega)) _) | (with_reducible refine Bt ?_ (by assumption)) | (with_reducible refine Bt ?_ (Gr.below (by assumption))))))
        have HG1 := Lib.hid (show RowKit.Below w.heap.size w w1 from (by repeat (first | with_reducible exact Below.refl _ _ | with_reducible assumption | with_reducible apply Ba | with_reducible apply Bd | with_reducible apply Bn | with_reducible apply Bg | (with_reducible refine Bs ?_ (by first | (simp; done) | (simp; omega)) _) | (with_reducible refine Bt ?_ (by assumption)) | (with_reducible refine Bt ?_ (Gr.below (by assumption))))))
        clear hg1
        go_wp2_with fail
        refine (FC.out _ (E1.out.below' (w' := ((w1.setCell ⟨w.heap.size, 1, none⟩ (.int .i64 p)).setCell ⟨w.heap.size, 2, none⟩ (.int .i64 q))) (show RowKit.Below w.heap.size w1 _ from (((Below.refl _ w1).setCell (p := ⟨w.heap.size, 1, none⟩) (Nat.le_refl _) _).setCell (p := ⟨w.heap.size, 2, none⟩) (Nat.le_refl _) _)) (by have := HE.out; exact ⟨cell_lt this.range, cell_lt this.ex, cell_lt this.kind⟩))).mono ?_
        rintro e w2 ⟨rfl, hg2⟩
        have yc0 : w2.cell? ⟨w.heap.size, 0, none⟩ = some (.int .i64 0) := Bc hg2.below (by simp [World.setCell]; omega) (by go_simp)
        have yf0 : w2.frozen? ⟨w.heap.size, 0, none⟩ = false := Bf hg2.below (by simp [World.setCell]; omega) (by simp [World.frozen?_setCell, *])
        have yc1 : w2.cell? ⟨w.heap.size, 1, none⟩ = some (.int .i64 p) := Bc hg2.below (by simp [World.setCell]; omega) (by go_simp)
        have yf1 : w2.frozen? ⟨w.heap.size, 1, none⟩ = false := Bf hg2.below (by simp [World.setCell]; omega) (by simp [World.frozen?_setCell, *])
        have yc2 : w2.cell? ⟨w.heap.size, 2, none⟩ = some (.int .i64 q) := Bc hg2.below (by simp [World.setCell]; omega) (by go_simp)
        have yf2 : w2.frozen? ⟨w.heap.size, 2, none⟩ = false := Bf hg2.below (by simp [World.setCell]; omega) (by simp [World.frozen?_setCell, *])
        have sc0 : w2.cell? ⟨w.heap.size + 1, 0, none⟩ = some (.int .i64 0) := Bc hg2.below (by simp [World.setCell]; omega) (by go_simp)
        have sf0 : w2.frozen? ⟨w.heap.size + 1, 0, none⟩ = false := Bf hg2.below (by simp [World.setCell]; omega) (by simp [World.frozen?_setCell, *])
        have sc1 : w2.cell? ⟨w.heap.size + 1, 1, none⟩ = some (.int .i64 0) := Bc hg2.below (by simp [World.setCell]; omega) (by go_simp)
        have sf1 : w2.frozen? ⟨w.heap.size + 1, 1, none⟩ = false := Bf hg2.below (by simp [World.setCell]; omega) (by simp [World.frozen?_setCell, *])
        have sc2 : w2.cell? ⟨w.heap.size + 1, 2, none⟩ = some (.int .i64 0) := Bc hg2.below (by simp [World.setCell]; omega) (by go_simp)
        have sf2 : w2.frozen? ⟨w.heap.size + 1, 2, none⟩ = false := Bf hg2.below (by simp [World.setCell]; omega) (by simp [World.frozen?_setCell, *])
        have hm2 : w.heap.size < w2.heap.size := by have := hg2.below.size; simp [World.setCell] at this; omega
        have hl2 : w.heap.size + 1 < w2.heap.size := by have := hg2.below.size; simp [World.setCell] at this; omega
        have HG2 := Lib.hid (show RowKit.Below w.heap.size w w2 from Bt (Bs (Bs HG1.out (Nat.le_refl _) _) (Nat.le_refl _) _) hg2.below)
        clear hg2
        go_wp2
        exact bodyPost_ret (v := .tuple #[.agg #[.int .i64 0, .int .i64 p, .int .i64 q], .nilIface]) (by simp [results, Tryd.results31, go_sem, *]) rfl ⟨rfl, by have := HG2.out; exact (by repeat (first | with_reducible exact Below.refl _ _ | with_reducible assumption | with_reducible apply Ba | with_reducible apply Bd | with_reducible apply Bn | with_reducible apply Bg | (with_reducible refine Bs ?_ (by first | (simp; done) | (simp; omega)) _) | (with_reducible refine Bt ?_ (by assumption)) | (with_reducible refine Bt ?_ (Gr.below (by assumption)))))⟩
      · have hc2 : chk (0, p, q) ≠ 0 := fun h => hn (hw1.1 h)
        have e1 : movN (0, a, b) dx dy = 1 := by unfold movN; rw [if_pos ⟨rfl, hc⟩]; dsimp only; rw [if_neg hn]
        have e2 : movV (0, a, b) dx dy = (0, 0, 0) := by unfold movV; rw [e1]; rfl
        rw [e1, e2, errV_at A 1 (by decide)]
        have FC : Hid (∀ W, Er W A → Calls Tryd.prog 12 #[.agg #[.int .i64 0, .int .i64 p, .int .i64 q]] W fun e w' => e = .returned (.iface 130 (.pointer (some (A 0)))) ∧ Gr W w') := fun W h => by
          have := check_any (0, p, q) A W h
          rw [chk_pos1 hc2, errV_at A 1 (by decide)] at this
          exact this
        generalize A (1 - 1) = ep at *
        clear hc hw1 hw2 hn hc2 e1 e2 hx hy hk0 hE
        unfold aggV
        dsimp only
        go_enter Tryd.func31, Tryd.ntmps31
        go_wp2_with fail
        refine (HW.out _ (HE.out.below (w' := (w.alloc (.cells #[.int .i64 0, .int .i64 a, .int .i64 b] 23)).alloc (.cells #[.int .i64 0, .int .i64 0, .int .i64 0] 23)) (by repeat (first | with_reducible exact Below.refl _ _ | with_reducible assumption | with_reducible apply Ba | with_reducible apply Bd | with_reducible apply Bn | with_reducible apply Bg | (with_reducible refine Bs ?_ (by first | (simp; done) | (simp; omega)) _) | (with_reducible refine Bt ?_ (by assumption)) | (with_reducible refine Bt ?_ (Gr.below (by assumption))))))).mono ?_
        rintro e w1 ⟨rfl, hg1⟩
        have xc0 : w1.cell? ⟨w.heap.size, 0, none⟩ = some (.int .i64 0) := Bc hg1.below (by simp; try omega) (by simp)
        have xf0 : w1.frozen? ⟨w.heap.size, 0, none⟩ = false := Bf hg1.below (by simp; try omega) (by simp)
        have xc1 : w1.cell? ⟨w.heap.size, 1, none⟩ = some (.int .i64 a) := Bc hg1.below (by simp; try omega) (by simp)
        have xf1 : w1.frozen? ⟨w.heap.size, 1, none⟩ = false := Bf hg1.below (by simp; try omega) (by simp)
        have xc2 : w1.cell? ⟨w.heap.size, 2, none⟩ = some (.int .i64 b) := Bc hg1.below (by simp; try omega) (by simp)
        have xf2 : w1.frozen? ⟨w.heap.size, 2, none⟩ = false := Bf hg1.below (by simp; try omega) (by simp)
        have rc0 : w1.cell? ⟨w.heap.size + 1, 0, none⟩ = some (.int .i64 0) := Bc hg1.below (by simp; try omega) (by simp)
        have rf0 : w1.frozen? ⟨w.heap.size + 1, 0, none⟩ = false := Bf hg1.below (by simp; try omega) (by simp)
        have rc1 : w1.cell? ⟨w.heap.size + 1, 1, none⟩ = some (.int .i64 0) := Bc hg1.below (by simp; try omega) (by simp)
        have rf1 : w1.frozen? ⟨w.heap.size + 1, 1, none⟩ = false := Bf hg1.below (by simp; try omega) (by simp)
        have rc2 : w1.cell? ⟨w.heap.size + 1, 2, none⟩ = some (.int .i64 0) := Bc hg1.below (by simp; try omega) (by simp)
        have rf2 : w1.frozen? ⟨w.heap.size + 1, 2, none⟩ = false := Bf hg1.below (by simp; try omega) (by simp)
        have hm1 : w.heap.size < w1.heap.size := by have := hg1.below.size; simp at this; omega
        have hl1 : w.heap.size + 1 < w1.heap.size := by have := hg1.below.size; simp at this; omega
        have E1 := Lib.hid (HE.out.below (w' := w1) (by repeat (first | with_reducible exact Below.refl _ _ | with_reducible assumption | with_reducible apply Ba | with_reducible apply Bd | with_reducible apply Bn | with_reducible apply Bg | (with_reducible refine Bs ?_ (by first | (simp; done) | (simp; omega)) _) | (with_reducible refine Bt ?_ (by assumption)) | (with_reducible refine Bt ?_ (Gr.below (by assumption))))))
        have HG1 := Lib.hid (show RowKit.Below w.heap.size w w1 from (by repeat (first | with_reducible exact Below.refl _ _ | with_reducible assumption | with_reducible apply Ba | with_reducible apply Bd | with_reducible apply Bn | with_reducible apply Bg | (with_reducible refine Bs ?_ (by first | (simp; done) | (simp; omega)) _) | (with_reducible refine Bt ?_ (by assumption)) | (with_reducible refine Bt ?_ (Gr.below (by assumption))))))
        clear hg1
        go_wp2_with fail
        refine (FC.out _ (E1.out.below' (w' := ((w1.setCell ⟨w.heap.size, 1, none⟩ (.int .i64 p)).setCell ⟨w.heap.size, 2, none⟩ (.int .i64 q))) (show RowKit.Below w.heap.size w1 _ from (((Below.refl _ w1).setCell (p := ⟨w.heap.size, 1, none⟩) (Nat.le_refl _) _).setCell (p := ⟨w.heap.size, 2, none⟩) (Nat.le_refl _) _)) (by have := HE.out; exact ⟨cell_lt this.range, cell_lt this.ex, cell_lt this.kind⟩))).mono ?_
        rintro e w2 ⟨rfl, hg2⟩
        have yc0 : w2.cell? ⟨w.heap.size, 0, none⟩ = some (.int .i64 0) := Bc hg2.below (by simp [World.setCell]; omega) (by go_simp)
        have yf0 : w2.frozen? ⟨w.heap.size, 0, none⟩ = false := Bf hg2.below (by simp [World.setCell]; omega) (by simp [World.frozen?_setCell, *])
        have yc1 : w2.cell? ⟨w.heap.size, 1, none⟩ = some (.int .i64 p) := Bc hg2.below (by simp [World.setCell]; omega) (by go_simp)
        have yf1 : w2.frozen? ⟨w.heap.size, 1, none⟩ = false := Bf hg2.below (by simp [World.setCell]; omega) (by simp [World.frozen?_setCell, *])
        have yc2 : w2.cell? ⟨w.heap.size, 2, none⟩ = some (.int .i64 q) := Bc hg2.below (by simp [World.setCell]; omega) (by go_simp)
        have yf2 : w2.frozen? ⟨w.heap.size, 2, none⟩ = false := Bf hg2.below (by simp [World.setCell]; omega) (by simp [World.frozen?_setCell, *])
        have sc0 : w2.cell? ⟨w.heap.size + 1, 0, none⟩ = some (.int .i64 0) := Bc hg2.below (by simp [World.setCell]; omega) (by go_simp)
        have sf0 : w2.frozen? ⟨w.heap.size + 1, 0, none⟩ = false := Bf hg2.below (by simp [World.setCell]; omega) (by simp [World.frozen?_setCell, *])
        have sc1 : w2.cell? ⟨w.heap.size + 1, 1, none⟩ = some (.int .i64 0) := Bc hg2.below (by simp [World.setCell]; omega) (by go_simp)
        have sf1 : w2.frozen? ⟨w.heap.size + 1, 1, none⟩ = false := Bf hg2.below (by simp [World.setCell]; omega) (by simp [World.frozen?_setCell, *])
        have sc2 : w2.cell? ⟨w.heap.size + 1, 2, none⟩ = some (.int .i64 0) := Bc hg2.below (by simp [World.setCell]; omega) (by go_simp)
        have sf2 : w2.frozen? ⟨w.heap.size + 1, 2, none⟩ = false := Bf hg2.below (by simp [World.setCell]; omega) (by simp [World.frozen?_setCell, *])
        have hm2 : w.heap.size < w2.heap.size := by have := hg2.below.size; simp [World.setCell] at this; omega
        have hl2 : w.heap.size + 1 < w2.heap.size := by have := hg2.below.size; simp [World.setCell] at this; omega
        have HG2 := Lib.hid (show RowKit.Below w.heap.size w w2 from Bt (Bs (Bs HG1.out (Nat.le_refl _) _) (Nat.le_refl _) _) hg2.below)
        clear hg2
        go_wp2
        exact bodyPost_ret (v := .tuple #[.agg #[.int .i64 0, .int .i64 0, .int .i64 0], .iface 130 (.pointer (some ep))]) (by simp [results, Tryd.results31, go_sem, *]) rfl ⟨rfl, by have := HG2.out; exact (by repeat (first | with_reducible exact Below.refl _ _ | with_reducible assumption | with_reducible apply Ba | with_reducible apply Bd | with_reducible apply Bn | with_reducible apply Bg | (with_reducible refine Bs ?_ (by first | (simp; done) | (simp; omega)) _) | (with_reducible refine Bt ?_ (by assumption)) | (with_reducible refine Bt ?_ (Gr.below (by assumption)))))⟩
    · have HW : Hid (∀ W, Er W A → Calls Tryd.prog 46 #[.agg #[.int .i64 0, .int .i64 a, .int .i64 b]] W fun e w' => e = .returned (.bool true) ∧ Gr W w') := fun W h => by
        have := wrong_any (0, a, b) A W h
        unfold wrongB at this
        rw [show (!(chk (0, a, b) == 0)) = true by simp [hc]] at this
        exact this
      have e1 : movN (0, a, b) dx dy = 5 := by unfold movN; rw [if_neg (fun h => hc h.2)]
      have e2 : movV (0, a, b) dx dy = (0, 0, 0) := by unfold movV; rw [e1]; rfl
      rw [e1, e2, errV_at A 5 (by decide)]
      clear hc e1 e2 hx hy hE
      unfold aggV
      dsimp only
      go_enter Tryd.func31, Tryd.ntmps31
      go_wp2_with fail
      refine (HW.out _ (HE.out.below (w' := (w.alloc (.cells #[.int .i64 0, .int .i64 a, .int .i64 b] 23)).alloc (.cells #[.int .i64 0, .int .i64 0, .int .i64 0] 23)) (by repeat (first | with_reducible exact Below.refl _ _ | with_reducible assumption | with_reducible apply Ba | with_reducible apply Bd | with_reducible apply Bn | with_reducible apply Bg | (with_reducible refine Bs ?_ (by first | (simp; done) | (simp; omega)) _) | (with_reducible refine Bt ?_ (by assumption)) | (with_reducible refine Bt ?_ (Gr.below (by assumption))))))).mono ?_
      rintro e w1 ⟨rfl, hg1⟩
      have xc0 : w1.cell? ⟨w.heap.size, 0, none⟩ = some (.int .i64 0) := Bc hg1.below (by simp; try omega) (by simp)
      have xf0 : w1.frozen? ⟨w.heap.size, 0, none⟩ = false := Bf hg1.below (by simp; try omega) (by simp)
      have xc1 : w1.cell? ⟨w.heap.size, 1, none⟩ = some (.int .i64 a) := Bc hg1.below (by simp; try omega) (by simp)
      have xf1 : w1.frozen? ⟨w.heap.size, 1, none⟩ = false := Bf hg1.below (by simp; try omega) (by simp)
      have xc2 : w1.cell? ⟨w.heap.size, 2, none⟩ = some (.int .i64 b) := Bc hg1.below (by simp; try omega) (by simp)
      have xf2 : w1.frozen? ⟨w.heap.size, 2, none⟩ = false := Bf hg1.below (by simp; try omega) (by simp)
      have rc0 : w1.cell? ⟨w.heap.size + 1, 0, none⟩ = some (.int .i64 0) := Bc hg1.below (by simp; try omega) (by simp)
      have rf0 : w1.frozen? ⟨w.heap.size + 1, 0, none⟩ = false := Bf hg1.below (by simp; try omega) (by simp)
      have rc1 : w1.cell? ⟨w.heap.size + 1, 1, none⟩ = some (.int .i64 0) := Bc hg1.below (by simp; try omega) (by simp)
      have rf1 : w1.frozen? ⟨w.heap.size + 1, 1, none⟩ = false := Bf hg1.below (by simp; try omega) (by simp)
      have rc2 : w1.cell? ⟨w.heap.size + 1, 2, none⟩ = some (.int .i64 0) := Bc hg1.below (by simp; try omega) (by simp)
      have rf2 : w1.frozen? ⟨w.heap.size + 1, 2, none⟩ = false := Bf hg1.below (by simp; try omega) (by simp)
      have hm1 : w.heap.size < w1.heap.size := by have := hg1.below.size; simp at this; omega
      have hl1 : w.heap.size + 1 < w1.heap.size := by have := hg1.below.size; simp at this; omega
      have r1 := (HE.out.below (w' := w1) (by repeat (first | with_reducible exact Below.refl _ _ | with_reducible assumption | with_reducible apply Ba | with_reducible apply Bd | with_reducible apply Bn | with_reducible apply Bg | (with_reducible refine Bs ?_ (by first | (simp; done) | (simp; omega)) _) | (with_reducible refine Bt ?_ (by assumption)) | (with_reducible refine Bt ?_ (Gr.below (by assumption)))))).kind
      have hlt := cell_lt hk0
      go_wp2_with fail
      go_region
      go_wp2
      exact bodyPost_ret (v := .tuple #[.agg #[.int .i64 0, .int .i64 0, .int .i64 0], .iface 130 (.pointer (some (A 4)))]) (by simp [results, Tryd.results31, go_sem, *]) rfl ⟨rfl, (by repeat (first | with_reducible exact Below.refl _ _ | with_reducible assumption | with_reducible apply Ba | with_reducible apply Bd | with_reducible apply Bn | with_reducible apply Bg | (with_reducible refine Bs ?_ (by first | (simp; done) | (simp; omega)) _) | (with_reducible refine Bt ?_ (by assumption)) | (with_reducible refine Bt ?_ (Gr.below (by assumption)))))⟩
  · have e1 : movN (k, a, b) dx dy = 5 := by unfold movN; rw [if_neg (fun h => hk h.1)]
    have e2 : movV (k, a, b) dx dy = (0, 0, 0) := by unfold movV; rw [e1]; rfl
    rw [e1, e2, errV_at A 5 (by decide)]
    have hne : (k != 0) = true := by simp [hk]
    have hne2 : (k == 0) = false := by simp [hk]
    have hlt := cell_lt hk0
    clear e1 e2 hx hy hE
    unfold aggV
    dsimp only
    go_enter Tryd.func31, Tryd.ntmps31
    go_wp2_with fail
    go_region
    go_wp2
    exact bodyPost_ret (v := .tuple #[.agg #[.int .i64 0, .int .i64 0, .int .i64 0], .iface 130 (.pointer (some (A 4)))]) (by simp [results, Tryd.results31, go_sem, *]) rfl ⟨rfl, (by repeat (first | with_reducible exact Below.refl _ _ | with_reducible assumption | with_reducible apply Ba | with_reducible apply Bd | with_reducible apply Bn | with_reducible apply Bg | (with_reducible refine Bs ?_ (by first | (simp; done) | (simp; omega)) _) | (with_reducible refine Bt ?_ (by assumption)) | (with_reducible refine Bt ?_ (Gr.below (by assumption)))))⟩
end Go.Proofs.YtbmclbajhgabgaaDoor
