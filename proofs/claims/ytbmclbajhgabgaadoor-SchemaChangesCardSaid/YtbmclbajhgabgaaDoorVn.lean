/-
  The reference's Moved (written by mkvn.py).
-/
import Derived.Test.YtbmclbajhgabgaaDoorVm
namespace Go.Proofs.YtbmclbajhgabgaaDoor
set_option linter.unusedSimpArgs false
set_option linter.unusedVariables false
open Go.RowKit Go.Sort Go.Lib Go.Shelf

set_option maxHeartbeats 2000000 in
set_option maxRecDepth 100000 in
theorem rmoved_call (x : Vl) (dx dy : Int) (w : World) :
    Calls Tryd.prog 32 #[aggV x, .int .i64 dx, .int .i64 dy] w fun e w' => e = .returned (.tuple #[aggV (movV x dx dy), .int .i64 (movN x dx dy : Nat)]) ∧ RowKit.Below w.heap.size w w' := by
  obtain ⟨k, a, b⟩ := x
  by_cases hk : k = 0
  · subst hk
    have HW : Hid (∀ W, Calls Tryd.prog 13 #[.agg #[.int .i64 0, .int .i64 a, .int .i64 b]] W fun e w' => e = .returned (.int .i64 (chk (0, a, b) : Nat)) ∧ Gr W w') := fun W => rcheck_any (0, a, b) W
    by_cases hc : chk (0, a, b) = 0
    · have h1 := chk_pos.1 hc
      rw [hc] at HW
      cases hp : inV dx (-2097152, 2097152)
      · have hn : chk (0, a + dx, b + dy) ≠ 0 := fun h => by
          have := chk_pos.1 h
          simp [inV] at hp
          omega
        have e1 : movN (0, a, b) dx dy = 1 := by unfold movN; rw [if_pos ⟨rfl, hc⟩]; dsimp only; rw [if_neg hn]
        have e2 : movV (0, a, b) dx dy = (0, 0, 0) := by unfold movV; rw [e1]; rfl
        rw [e1, e2]
        clear e1 e2 hn h1 hc
        unfold aggV
        dsimp only
        go_enter Tryd.func32, Tryd.ntmps32
        go_wp2_with fail
        refine (HW.out _).mono ?_
        rintro e w1 ⟨rfl, hg1⟩
        have xc0 : w1.cell? ⟨w.heap.size, 0, none⟩ = some (.int .i64 0) := Bc hg1.below (by simp; try omega) (by simp)
        have xf0 : w1.frozen? ⟨w.heap.size, 0, none⟩ = false := Bf hg1.below (by simp; try omega) (by simp)
        have xc1 : w1.cell? ⟨w.heap.size, 1, none⟩ = some (.int .i64 a) := Bc hg1.below (by simp; try omega) (by simp)
        have xf1 : w1.frozen? ⟨w.heap.size, 1, none⟩ = false := Bf hg1.below (by simp; try omega) (by simp)
        have xc2 : w1.cell? ⟨w.heap.size, 2, none⟩ = some (.int .i64 b) := Bc hg1.below (by simp; try omega) (by simp)
        have xf2 : w1.frozen? ⟨w.heap.size, 2, none⟩ = false := Bf hg1.below (by simp; try omega) (by simp)
        have rc0 : w1.cell? ⟨w.heap.size + 1, 0, none⟩ = some (.int .i64 0) := Bc hg1.below (by simp; try omega) (by simp)
        have rf0 : w1.frozen? ⟨w.heap.size + 1, 0, none⟩ = false := Bf hg1.below (by simp; try omega) (by simp)
        have rc1 : w1.cell? ⟨w.heap.size + 1, 1, none⟩ = some (.int .i64 0) := Bc hg1.below (by simp; try omega) (by simp)
        have rf1 : w1.frozen? ⟨w.heap.size + 1, 1, none⟩ = false := Bf hg1.below (by simp; try omega) (by simp)
        have rc2 : w1.cell? ⟨w.heap.size + 1, 2, none⟩ = some (.int .i64 0) := Bc hg1.below (by simp; try omega) (by simp)
        have rf2 : w1.frozen? ⟨w.heap.size + 1, 2, none⟩ = false := Bf hg1.below (by simp; try omega) (by simp)
        have hm1 : w.heap.size < w1.heap.size := by have := hg1.below.size; simp at this; omega
        have hl1 : w.heap.size + 1 < w1.heap.size := by have := hg1.below.size; simp at this; omega
        have HG1 := Lib.hid (show RowKit.Below w.heap.size w w1 from (by repeat (first | with_reducible exact Below.refl _ _ | with_reducible assumption | with_reducible apply Ba | with_reducible apply Bd | with_reducible apply Bn | with_reducible apply Bg | (with_reducible refine Bs ?_ (by first | (simp; done) | (simp; omega)) _) | (with_reducible refine Bt ?_ (by assumption)) | (with_reducible refine Bt ?_ (Gr.below (by assumption))))))
        clear hg1
        go_wp2_with (go_at_call 40; refine (in_it _ _ _ _ _ (by assumption)).mono ?_; rintro e w9 ⟨rfl, rfl⟩)
        exact bodyPost_ret (v := .tuple #[.agg #[.int .i64 0, .int .i64 0, .int .i64 0], .int .i64 1]) (by simp [results, Tryd.results32, go_sem, *]) rfl ⟨rfl, by have := HG1.out; exact (by repeat (first | with_reducible exact Below.refl _ _ | with_reducible assumption | with_reducible apply Ba | with_reducible apply Bd | with_reducible apply Bn | with_reducible apply Bg | (with_reducible refine Bs ?_ (by first | (simp; done) | (simp; omega)) _) | (with_reducible refine Bt ?_ (by assumption)) | (with_reducible refine Bt ?_ (Gr.below (by assumption)))))⟩
      · cases hq : inV dy (-2097152, 2097152)
        · have hn : chk (0, a + dx, b + dy) ≠ 0 := fun h => by
            have := chk_pos.1 h
            simp [inV] at hq
            omega
          have e1 : movN (0, a, b) dx dy = 1 := by unfold movN; rw [if_pos ⟨rfl, hc⟩]; dsimp only; rw [if_neg hn]
          have e2 : movV (0, a, b) dx dy = (0, 0, 0) := by unfold movV; rw [e1]; rfl
          rw [e1, e2]
          clear e1 e2 hn h1 hc
          unfold aggV
          dsimp only
          go_enter Tryd.func32, Tryd.ntmps32
          go_wp2_with fail
          refine (HW.out _).mono ?_
          rintro e w1 ⟨rfl, hg1⟩
          have xc0 : w1.cell? ⟨w.heap.size, 0, none⟩ = some (.int .i64 0) := Bc hg1.below (by simp; try omega) (by simp)
          have xf0 : w1.frozen? ⟨w.heap.size, 0, none⟩ = false := Bf hg1.below (by simp; try omega) (by simp)
          have xc1 : w1.cell? ⟨w.heap.size, 1, none⟩ = some (.int .i64 a) := Bc hg1.below (by simp; try omega) (by simp)
          have xf1 : w1.frozen? ⟨w.heap.size, 1, none⟩ = false := Bf hg1.below (by simp; try omega) (by simp)
          have xc2 : w1.cell? ⟨w.heap.size, 2, none⟩ = some (.int .i64 b) := Bc hg1.below (by simp; try omega) (by simp)
          have xf2 : w1.frozen? ⟨w.heap.size, 2, none⟩ = false := Bf hg1.below (by simp; try omega) (by simp)
          have rc0 : w1.cell? ⟨w.heap.size + 1, 0, none⟩ = some (.int .i64 0) := Bc hg1.below (by simp; try omega) (by simp)
          have rf0 : w1.frozen? ⟨w.heap.size + 1, 0, none⟩ = false := Bf hg1.below (by simp; try omega) (by simp)
          have rc1 : w1.cell? ⟨w.heap.size + 1, 1, none⟩ = some (.int .i64 0) := Bc hg1.below (by simp; try omega) (by simp)
          have rf1 : w1.frozen? ⟨w.heap.size + 1, 1, none⟩ = false := Bf hg1.below (by simp; try omega) (by simp)
          have rc2 : w1.cell? ⟨w.heap.size + 1, 2, none⟩ = some (.int .i64 0) := Bc hg1.below (by simp; try omega) (by simp)
          have rf2 : w1.frozen? ⟨w.heap.size + 1, 2, none⟩ = false := Bf hg1.below (by simp; try omega) (by simp)
          have hm1 : w.heap.size < w1.heap.size := by have := hg1.below.size; simp at this; omega
          have hl1 : w.heap.size + 1 < w1.heap.size := by have := hg1.below.size; simp at this; omega
          have HG1 := Lib.hid (show RowKit.Below w.heap.size w w1 from (by repeat (first | with_reducible exact Below.refl _ _ | with_reducible assumption | with_reducible apply Ba | with_reducible apply Bd | with_reducible apply Bn | with_reducible apply Bg | (with_reducible refine Bs ?_ (by first | (simp; done) | (simp; omega)) _) | (with_reducible refine Bt ?_ (by assumption)) | (with_reducible refine Bt ?_ (Gr.below (by assumption))))))
          clear hg1
          go_wp2_with (go_at_call 40; refine (in_it _ _ _ _ _ (by assumption)).mono ?_; rintro e w9 ⟨rfl, rfl⟩)
          exact bodyPost_ret (v := .tuple #[.agg #[.int .i64 0, .int .i64 0, .int .i64 0], .int .i64 1]) (by simp [results, Tryd.results32, go_sem, *]) rfl ⟨rfl, by have := HG1.out; exact (by repeat (first | with_reducible exact Below.refl _ _ | with_reducible assumption | with_reducible apply Ba | with_reducible apply Bd | with_reducible apply Bn | with_reducible apply Bg | (with_reducible refine Bs ?_ (by first | (simp; done) | (simp; omega)) _) | (with_reducible refine Bt ?_ (by assumption)) | (with_reducible refine Bt ?_ (Gr.below (by assumption)))))⟩
        · have hpp : -2097152 ≤ dx ∧ dx ≤ 2097152 := by simpa [inV] using hp
          have hqq : -2097152 ≤ dy ∧ dy ≤ 2097152 := by simpa [inV] using hq
          have hs1 : IntKind.i64.wrap (a + dx) = a + dx := by rw [IntKind.wrap_i64]; omega
          have hs2 : IntKind.i64.wrap (b + dy) = b + dy := by rw [IntKind.wrap_i64]; omega
          by_cases hn : chk (0, a + dx, b + dy) = 0
          · have e1 : movN (0, a, b) dx dy = 0 := by unfold movN; rw [if_pos ⟨rfl, hc⟩]; dsimp only; rw [if_pos hn]
            have e2 : movV (0, a, b) dx dy = (0, a + dx, b + dy) := by unfold movV; rw [if_pos e1]
            rw [e1, e2]
            have FC : Hid (∀ W, Calls Tryd.prog 13 #[.agg #[.int .i64 0, .int .i64 (a + dx), .int .i64 (b + dy)]] W fun e w' => e = .returned (.int .i64 0) ∧ Gr W w') := fun W => by
              have := rcheck_any (0, a + dx, b + dy) W
              rw [hn] at this
              exact this
            clear e1 e2 hn h1 hc hpp hqq
            unfold aggV
            dsimp only
            obtain ⟨p, hpe⟩ : ∃ p, p = a + dx := ⟨_, rfl⟩
            obtain ⟨q, hqe⟩ : ∃ q, q = b + dy := ⟨_, rfl⟩
            have hs3 : IntKind.i64.wrap (a + dx) = p := by rw [hs1, hpe]
            have hs4 : IntKind.i64.wrap (b + dy) = q := by rw [hs2, hqe]
            rw [← hpe, ← hqe] at FC
            first | rw [← hpe, ← hqe] | skip
            clear hpe hqe hs1 hs2
            go_enter Tryd.func32, Tryd.ntmps32
            go_wp2_with fail
            refine (HW.out _).mono ?_
            rintro e w1 ⟨rfl, hg1⟩
            have xc0 : w1.cell? ⟨w.heap.size, 0, none⟩ = some (.int .i64 0) := Bc hg1.below (by simp; try omega) (by simp)
            have xf0 : w1.frozen? ⟨w.heap.size, 0, none⟩ = false := Bf hg1.below (by simp; try omega) (by simp)
            have xc1 : w1.cell? ⟨w.heap.size, 1, none⟩ = some (.int .i64 a) := Bc hg1.below (by simp; try omega) (by simp)
            have xf1 : w1.frozen? ⟨w.heap.size, 1, none⟩ = false := Bf hg1.below (by simp; try omega) (by simp)
            have xc2 : w1.cell? ⟨w.heap.size, 2, none⟩ = some (.int .i64 b) := Bc hg1.below (by simp; try omega) (by simp)
            have xf2 : w1.frozen? ⟨w.heap.size, 2, none⟩ = false := Bf hg1.below (by simp; try omega) (by simp)
            have rc0 : w1.cell? ⟨w.heap.size + 1, 0, none⟩ = some (.int .i64 0) := Bc hg1.below (by simp; try omega) (by simp)
            have rf0 : w1.frozen? ⟨w.heap.size + 1, 0, none⟩ = false := Bf hg1.below (by simp; try omega) (by simp)
            have rc1 : w1.cell? ⟨w.heap.size + 1, 1, none⟩ = some (.int .i64 0) := Bc hg1.below (by simp; try omega) (by simp)
            have rf1 : w1.frozen? ⟨w.heap.size + 1, 1, none⟩ = false := Bf hg1.below (by simp; try omega) (by simp)
            have rc2 : w1.cell? ⟨w.heap.size + 1, 2, none⟩ = some (.int .i64 0) := Bc hg1.below (by simp; try omega) (by simp)
            have rf2 : w1.frozen? ⟨w.heap.size + 1, 2, none⟩ = false := Bf hg1.below (by simp; try omega) (by simp)
            have hm1 : w.heap.size < w1.heap.size := by have := hg1.below.size; simp at this; omega
            have hl1 : w.heap.size + 1 < w1.heap.size := by have := hg1.below.size; simp at this; omega
            have HG1 := Lib.hid (show RowKit.Below w.heap.size w w1 from (by repeat (first | with_reducible exact Below.refl _ _ | with_reducible assumption | with_reducible apply Ba | with_reducible apply Bd | with_reducible apply Bn | with_reducible apply Bg | (with_reducible refine Bs ?_ (by first | (simp; done) | (simp; omega)) _) | (with_reducible refine Bt ?_ (by assumption)) | (with_reducible refine Bt ?_ (Gr.below (by assumption))))))
            clear hg1
            go_wp2_with (go_at_call 40; refine (in_it _ _ _ _ _ (by assumption)).mono ?_; rintro e w9 ⟨rfl, rfl⟩)
            refine (FC.out _).mono ?_
            rintro e w2 ⟨rfl, hg2⟩
            have hb2 := (show RowKit.Below w1.heap.size w1 w2 from (by repeat (first | with_reducible exact Below.refl _ _ | with_reducible assumption | with_reducible apply Ba | with_reducible apply Bd | with_reducible apply Bn | with_reducible apply Bg | (with_reducible refine Bs ?_ (by first | (simp; done) | (simp; omega)) _) | (with_reducible refine Bt ?_ (by assumption)) | (with_reducible refine Bt ?_ (Gr.below (by assumption))))))
            have sc0 : w2.cell? ⟨w.heap.size + 1, 0, none⟩ = some (.int .i64 0) := Bc hb2 hl1 rc0
            have sf0 : w2.frozen? ⟨w.heap.size + 1, 0, none⟩ = false := Bf hb2 hl1 rf0
            have sc1 : w2.cell? ⟨w.heap.size + 1, 1, none⟩ = some (.int .i64 0) := Bc hb2 hl1 rc1
            have sf1 : w2.frozen? ⟨w.heap.size + 1, 1, none⟩ = false := Bf hb2 hl1 rf1
            have sc2 : w2.cell? ⟨w.heap.size + 1, 2, none⟩ = some (.int .i64 0) := Bc hb2 hl1 rc2
            have sf2 : w2.frozen? ⟨w.heap.size + 1, 2, none⟩ = false := Bf hb2 hl1 rf2
            have hl2 : w.heap.size + 1 < w2.heap.size := Bl hb2 hl1
            have v0 : w2.cell? ⟨w1.heap.size, 0, none⟩ = some (.int .i64 0) := Bc hg2.below (by simp) (by simp)
            have v1 : w2.cell? ⟨w1.heap.size, 1, none⟩ = some (.int .i64 p) := Bc hg2.below (by simp) (by simp)
            have v2 : w2.cell? ⟨w1.heap.size, 2, none⟩ = some (.int .i64 q) := Bc hg2.below (by simp) (by simp)
            have hv2 : w1.heap.size < w2.heap.size := by have := hg2.below.size; simp at this; omega
            have HG2 := Lib.hid (show RowKit.Below w.heap.size w w2 from Bt HG1.out hb2)
            clear hg2 hb2
            go_wp2
            exact bodyPost_ret (v := .tuple #[.agg #[.int .i64 0, .int .i64 p, .int .i64 q], .int .i64 0]) (by simp [results, Tryd.results32, go_sem, *]) rfl ⟨rfl, by have := HG2.out; exact (by repeat (first | with_reducible exact Below.refl _ _ | with_reducible assumption | with_reducible apply Ba | with_reducible apply Bd | with_reducible apply Bn | with_reducible apply Bg | (with_reducible refine Bs ?_ (by first | (simp; done) | (simp; omega)) _) | (with_reducible refine Bt ?_ (by assumption)) | (with_reducible refine Bt ?_ (Gr.below (by assumption)))))⟩
          · have e1 : movN (0, a, b) dx dy = 1 := by unfold movN; rw [if_pos ⟨rfl, hc⟩]; dsimp only; rw [if_neg hn]
            have e2 : movV (0, a, b) dx dy = (0, 0, 0) := by unfold movV; rw [e1]; rfl
            rw [e1, e2]
            have FC : Hid (∀ W, Calls Tryd.prog 13 #[.agg #[.int .i64 0, .int .i64 (a + dx), .int .i64 (b + dy)]] W fun e w' => e = .returned (.int .i64 1) ∧ Gr W w') := fun W => by
              have := rcheck_any (0, a + dx, b + dy) W
              rw [chk_pos1 hn] at this
              exact this
            clear e1 e2 hn h1 hc hpp hqq
            unfold aggV
            dsimp only
            obtain ⟨p, hpe⟩ : ∃ p, p = a + dx := ⟨_, rfl⟩
            obtain ⟨q, hqe⟩ : ∃ q, q = b + dy := ⟨_, rfl⟩
            have hs3 : IntKind.i64.wrap (a + dx) = p := by rw [hs1, hpe]
            have hs4 : IntKind.i64.wrap (b + dy) = q := by rw [hs2, hqe]
            rw [← hpe, ← hqe] at FC
            first | rw [← hpe, ← hqe] | skip
            clear hpe hqe hs1 hs2
            go_enter Tryd.func32, Tryd.ntmps32
            go_wp2_with fail
            refine (HW.out _).mono ?_
            rintro e w1 ⟨rfl, hg1⟩
            have xc0 : w1.cell? ⟨w.heap.size, 0, none⟩ = some (.int .i64 0) := Bc hg1.below (by simp; try omega) (by simp)
            have xf0 : w1.frozen? ⟨w.heap.size, 0, none⟩ = false := Bf hg1.below (by simp; try omega) (by simp)
            have xc1 : w1.cell? ⟨w.heap.size, 1, none⟩ = some (.int .i64 a) := Bc hg1.below (by simp; try omega) (by simp)
            have xf1 : w1.frozen? ⟨w.heap.size, 1, none⟩ = false := Bf hg1.below (by simp; try omega) (by simp)
            have xc2 : w1.cell? ⟨w.heap.size, 2, none⟩ = some (.int .i64 b) := Bc hg1.below (by simp; try omega) (by simp)
            have xf2 : w1.frozen? ⟨w.heap.size, 2, none⟩ = false := Bf hg1.below (by simp; try omega) (by simp)
            have rc0 : w1.cell? ⟨w.heap.size + 1, 0, none⟩ = some (.int .i64 0) := Bc hg1.below (by simp; try omega) (by simp)
            have rf0 : w1.frozen? ⟨w.heap.size + 1, 0, none⟩ = false := Bf hg1.below (by simp; try omega) (by simp)
            have rc1 : w1.cell? ⟨w.heap.size + 1, 1, none⟩ = some (.int .i64 0) := Bc hg1.below (by simp; try omega) (by simp)
            have rf1 : w1.frozen? ⟨w.heap.size + 1, 1, none⟩ = false := Bf hg1.below (by simp; try omega) (by simp)
            have rc2 : w1.cell? ⟨w.heap.size + 1, 2, none⟩ = some (.int .i64 0) := Bc hg1.below (by simp; try omega) (by simp)
            have rf2 : w1.frozen? ⟨w.heap.size + 1, 2, none⟩ = false := Bf hg1.below (by simp; try omega) (by simp)
            have hm1 : w.heap.size < w1.heap.size := by have := hg1.below.size; simp at this; omega
            have hl1 : w.heap.size + 1 < w1.heap.size := by have := hg1.below.size; simp at this; omega
            have HG1 := Lib.hid (show RowKit.Below w.heap.size w w1 from (by repeat (first | with_reducible exact Below.refl _ _ | with_reducible assumption | with_reducible apply Ba | with_reducible apply Bd | with_reducible apply Bn | with_reducible apply Bg | (with_reducible refine Bs ?_ (by first | (simp; done) | (simp; omega)) _) | (with_reducible refine Bt ?_ (by assumption)) | (with_reducible refine Bt ?_ (Gr.below (by assumption))))))
            clear hg1
            go_wp2_with (go_at_call 40; refine (in_it _ _ _ _ _ (by assumption)).mono ?_; rintro e w9 ⟨rfl, rfl⟩)
            refine (FC.out _).mono ?_
            rintro e w2 ⟨rfl, hg2⟩
            have hb2 := (show RowKit.Below w1.heap.size w1 w2 from (by repeat (first | with_reducible exact Below.refl _ _ | with_reducible assumption | with_reducible apply Ba | with_reducible apply Bd | with_reducible apply Bn | with_reducible apply Bg | (with_reducible refine Bs ?_ (by first | (simp; done) | (simp; omega)) _) | (with_reducible refine Bt ?_ (by assumption)) | (with_reducible refine Bt ?_ (Gr.below (by assumption))))))
            have sc0 : w2.cell? ⟨w.heap.size + 1, 0, none⟩ = some (.int .i64 0) := Bc hb2 hl1 rc0
            have sf0 : w2.frozen? ⟨w.heap.size + 1, 0, none⟩ = false := Bf hb2 hl1 rf0
            have sc1 : w2.cell? ⟨w.heap.size + 1, 1, none⟩ = some (.int .i64 0) := Bc hb2 hl1 rc1
            have sf1 : w2.frozen? ⟨w.heap.size + 1, 1, none⟩ = false := Bf hb2 hl1 rf1
            have sc2 : w2.cell? ⟨w.heap.size + 1, 2, none⟩ = some (.int .i64 0) := Bc hb2 hl1 rc2
            have sf2 : w2.frozen? ⟨w.heap.size + 1, 2, none⟩ = false := Bf hb2 hl1 rf2
            have hl2 : w.heap.size + 1 < w2.heap.size := Bl hb2 hl1
            have v0 : w2.cell? ⟨w1.heap.size, 0, none⟩ = some (.int .i64 0) := Bc hg2.below (by simp) (by simp)
            have v1 : w2.cell? ⟨w1.heap.size, 1, none⟩ = some (.int .i64 p) := Bc hg2.below (by simp) (by simp)
            have v2 : w2.cell? ⟨w1.heap.size, 2, none⟩ = some (.int .i64 q) := Bc hg2.below (by simp) (by simp)
            have hv2 : w1.heap.size < w2.heap.size := by have := hg2.below.size; simp at this; omega
            have HG2 := Lib.hid (show RowKit.Below w.heap.size w w2 from Bt HG1.out hb2)
            clear hg2 hb2
            go_wp2
            exact bodyPost_ret (v := .tuple #[.agg #[.int .i64 0, .int .i64 0, .int .i64 0], .int .i64 1]) (by simp [results, Tryd.results32, go_sem, *]) rfl ⟨rfl, by have := HG2.out; exact (by repeat (first | with_reducible exact Below.refl _ _ | with_reducible assumption | with_reducible apply Ba | with_reducible apply Bd | with_reducible apply Bn | with_reducible apply Bg | (with_reducible refine Bs ?_ (by first | (simp; done) | (simp; omega)) _) | (with_reducible refine Bt ?_ (by assumption)) | (with_reducible refine Bt ?_ (Gr.below (by assumption)))))⟩
    · have e1 : movN (0, a, b) dx dy = 5 := by unfold movN; rw [if_neg (fun h => hc h.2)]
      have e2 : movV (0, a, b) dx dy = (0, 0, 0) := by unfold movV; rw [e1]; rfl
      rw [e1, e2]
      rw [chk_pos1 hc] at HW
      clear e1 e2 hc
      unfold aggV
      dsimp only
      go_enter Tryd.func32, Tryd.ntmps32
      go_wp2_with fail
      refine (HW.out _).mono ?_
      rintro e w1 ⟨rfl, hg1⟩
      have xc0 : w1.cell? ⟨w.heap.size, 0, none⟩ = some (.int .i64 0) := Bc hg1.below (by simp; try omega) (by simp)
      have xf0 : w1.frozen? ⟨w.heap.size, 0, none⟩ = false := Bf hg1.below (by simp; try omega) (by simp)
      have xc1 : w1.cell? ⟨w.heap.size, 1, none⟩ = some (.int .i64 a) := Bc hg1.below (by simp; try omega) (by simp)
      have xf1 : w1.frozen? ⟨w.heap.size, 1, none⟩ = false := Bf hg1.below (by simp; try omega) (by simp)
      have xc2 : w1.cell? ⟨w.heap.size, 2, none⟩ = some (.int .i64 b) := Bc hg1.below (by simp; try omega) (by simp)
      have xf2 : w1.frozen? ⟨w.heap.size, 2, none⟩ = false := Bf hg1.below (by simp; try omega) (by simp)
      have rc0 : w1.cell? ⟨w.heap.size + 1, 0, none⟩ = some (.int .i64 0) := Bc hg1.below (by simp; try omega) (by simp)
      have rf0 : w1.frozen? ⟨w.heap.size + 1, 0, none⟩ = false := Bf hg1.below (by simp; try omega) (by simp)
      have rc1 : w1.cell? ⟨w.heap.size + 1, 1, none⟩ = some (.int .i64 0) := Bc hg1.below (by simp; try omega) (by simp)
      have rf1 : w1.frozen? ⟨w.heap.size + 1, 1, none⟩ = false := Bf hg1.below (by simp; try omega) (by simp)
      have rc2 : w1.cell? ⟨w.heap.size + 1, 2, none⟩ = some (.int .i64 0) := Bc hg1.below (by simp; try omega) (by simp)
      have rf2 : w1.frozen? ⟨w.heap.size + 1, 2, none⟩ = false := Bf hg1.below (by simp; try omega) (by simp)
      have hm1 : w.heap.size < w1.heap.size := by have := hg1.below.size; simp at this; omega
      have hl1 : w.heap.size + 1 < w1.heap.size := by have := hg1.below.size; simp at this; omega
      have HG1 := Lib.hid (show RowKit.Below w.heap.size w w1 from (by repeat (first | with_reducible exact Below.refl _ _ | with_reducible assumption | with_reducible apply Ba | with_reducible apply Bd | with_reducible apply Bn | with_reducible apply Bg | (with_reducible refine Bs ?_ (by first | (simp; done) | (simp; omega)) _) | (with_reducible refine Bt ?_ (by assumption)) | (with_reducible refine Bt ?_ (Gr.below (by assumption))))))
      clear hg1
      go_wp2
      exact bodyPost_ret (v := .tuple #[.agg #[.int .i64 0, .int .i64 0, .int .i64 0], .int .i64 5]) (by simp [results, Tryd.results32, go_sem, *]) rfl ⟨rfl, by have := HG1.out; exact (by repeat (first | with_reducible exact Below.refl _ _ | with_reducible assumption | with_reducible apply Ba | with_reducible apply Bd | with_reducible apply Bn | with_reducible apply Bg | (with_reducible refine Bs ?_ (by first | (simp; done) | (simp; omega)) _) | (with_reducible refine Bt ?_ (by assumption)) | (with_reducible refine Bt ?_ (Gr.below (by assumption)))))⟩
  · have e1 : movN (k, a, b) dx dy = 5 := by unfold movN; rw [if_neg (fun h => hk h.1)]
    have e2 : movV (k, a, b) dx dy = (0, 0, 0) := by unfold movV; rw [e1]; rfl
    rw [e1, e2]
    have hne : (k != 0) = true := by simp [hk]
    have hne2 : (k == 0) = false := by simp [hk]
    clear e1 e2
    unfold aggV
    dsimp only
    go_enter Tryd.func32, Tryd.ntmps32
    go_wp2
    exact bodyPost_ret (v := .tuple #[.agg #[.int .i64 0, .int .i64 0, .int .i64 0], .int .i64 5]) (by simp [results, Tryd.results32, go_sem, *]) rfl ⟨rfl, (by repeat (first | with_reducible exact Below.refl _ _ | with_reducible assumption | with_reducible apply Ba | with_reducible apply Bd | with_reducible apply Bn | with_reducible apply Bg | (with_reducible refine Bs ?_ (by first | (simp; done) | (simp; omega)) _) | (with_reducible refine Bt ?_ (by assumption)) | (with_reducible refine Bt ?_ (Gr.below (by assumption)))))⟩
end Go.Proofs.YtbmclbajhgabgaaDoor
