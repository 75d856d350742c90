/-
  Package tiles: a map's Grid, Has, Count, Free, blocked.
-/
import Derived.Test.YtmeinjkpbijaeaaDoorMp14
import Derived.Test.YtmeinjkpbijaeaaDoorTl14
namespace Go.Proofs.YtmeinjkpbijaeaaDoor
set_option linter.unusedSimpArgs false
set_option linter.unusedVariables false
open Go.RowKit Go.Sort Go.Lib Go.Shelf

section
variable {pa : Nat} {g : Gd} {c : List Int} {M : Nat → Prop} {w : World}
set_option maxHeartbeats 1000000 in
theorem mgrid_call (hp : MpAt 74 w M pa g c) : Calls Tryd.prog 17 #[ptP pa] w fun e w' => e = .returned (grV g) ∧ RowKit.Below w.heap.size w w' := by
  obtain ⟨blk, cap, hI, -⟩ := hp.open
  have hl := hI.lt
  obtain ⟨c0, c1, c2, c3, c4, c5⟩ := hI.cells
  clear hI hp
  obtain ⟨W, H, S, X, Y⟩ := g
  dsimp only at *
  unfold ptP
  go_enter Tryd.func17, Tryd.ntmps17
  go_wp2
  exact bodyPost_ret (v := .agg #[.int .i64 W, .int .i64 H, .int .i64 S, .int .i64 X, .int .i64 Y]) (by simp [results, Tryd.results17, go_sem, *]) rfl ⟨rfl, (by repeat (first | with_reducible exact Below.refl _ _ | with_reducible assumption | with_reducible apply Ba | with_reducible apply Bd | with_reducible apply Bn | with_reducible apply Bg | (with_reducible refine Bs ?_ (by first | (simp; done) | (simp; omega)) _) | (with_reducible refine Bt ?_ (by assumption)) | (with_reducible refine Bt ?_ (Gr.below (by assumption)))))⟩
/-- There is such a tile. -/
def hasT (c : List Int) (t : Int) : Bool := decide (0 ≤ t) && decide (t < c.length)
theorem hasT_iff {c : List Int} {t : Int} : hasT c t = true ↔ 0 ≤ t ∧ t < c.length := by simp [hasT]
set_option maxHeartbeats 1000000 in
theorem mhas_call (hp : MpAt 74 w M pa g c) (t : Int) : Calls Tryd.prog 29 #[ptP pa, .int .i64 t] w fun e w' => e = .returned (.bool (hasT c t)) ∧ w = w' := by
  obtain ⟨blk, cap, hI, h1, h2, h3, h4, h5, h6⟩ := hp.open
  have hl := hI.lt
  obtain ⟨-, -, -, -, -, c5⟩ := hI.cells
  have hb : btw t 0 ((c.length : Int) - 1) = hasT c t := by
    rw [Bool.eq_iff_iff, hasT_iff]
    simp only [btw, Bool.and_eq_true, decide_eq_true_eq]
    omega
  rw [← hb]
  clear hI hp hb
  generalize c.length = n at *
  unfold ptP
  go_enter Tryd.func29, Tryd.ntmps29
  go_wp2_with fail
  refine (tbetween_any _ _ _ _).mono ?_
  rintro e w1 ⟨rfl, rfl⟩
  go_wp2
  go_ret
  exact ⟨rfl, rfl⟩
def cntT (c : List Int) (t : Int) : Int := if hasT c t then c[t.toNat]! else 0
set_option maxHeartbeats 1000000 in
theorem mcount_call (hp : MpAt 74 w M pa g c) (t : Int) : Calls Tryd.prog 27 #[ptP pa, .int .i64 t] w fun e w' => e = .returned (.int .i64 (cntT c t)) ∧ w = w' := by
  have HC := Lib.hid (fun t => mhas_call hp t)
  unfold cntT
  cases hh : hasT c t
  · have HC1 := Lib.hid (HC.out t)
    rw [hh] at HC1
    rw [if_neg (by simp)]
    clear hp HC
    go_enter Tryd.func27, Tryd.ntmps27
    go_wp2_with fail
    refine HC1.out.mono ?_
    rintro e w1 ⟨rfl, rfl⟩
    go_wp2
    go_ret
    exact ⟨rfl, rfl⟩
  · have HC1 := Lib.hid (HC.out t)
    rw [hh] at HC1
    rw [if_pos rfl]
    obtain ⟨t0, t1⟩ := hasT_iff.1 hh
    obtain ⟨k, rfl⟩ : ∃ k : Nat, t = k := ⟨t.toNat, by omega⟩
    rw [Int.toNat_natCast]
    have hk : k < c.length := by omega
    obtain ⟨blk, cap, hI, h1, h2, h3, h4, h5, h6⟩ := hp.open
    have hl := hI.lt
    obtain ⟨-, -, -, -, -, c5⟩ := hI.cells
    obtain ⟨d1, -⟩ := hI.get hk
    clear hI hp HC hh
    generalize c[k]! = x at *
    generalize c.length = n at *
    unfold ptP at *
    go_enter Tryd.func27, Tryd.ntmps27
    go_wp2_with fail
    refine HC1.out.mono ?_
    rintro e w1 ⟨rfl, rfl⟩
    go_wp2
    go_ret
    exact ⟨rfl, rfl⟩
def freeT (c : List Int) (t : Int) : Bool := hasT c t && decide (c[t.toNat]! = 0)
set_option maxHeartbeats 1000000 in
theorem mfree_call (hp : MpAt 74 w M pa g c) (t : Int) : Calls Tryd.prog 28 #[ptP pa, .int .i64 t] w fun e w' => e = .returned (.bool (freeT c t)) ∧ w = w' := by
  have HC := Lib.hid (fun t => mhas_call hp t)
  unfold freeT
  cases hh : hasT c t
  · have HC1 := Lib.hid (HC.out t)
    rw [hh] at HC1
    clear hp HC
    go_enter Tryd.func28, Tryd.ntmps28
    go_wp2_with fail
    refine HC1.out.mono ?_
    rintro e w1 ⟨rfl, rfl⟩
    go_wp2
    go_ret
    exact ⟨ret_bool (by simp), rfl⟩
  · have HC1 := Lib.hid (HC.out t)
    rw [hh] at HC1
    obtain ⟨t0, t1⟩ := hasT_iff.1 hh
    obtain ⟨k, rfl⟩ : ∃ k : Nat, t = k := ⟨t.toNat, by omega⟩
    rw [Int.toNat_natCast]
    have hk : k < c.length := by omega
    obtain ⟨blk, cap, hI, h1, h2, h3, h4, h5, h6⟩ := hp.open
    have hl := hI.lt
    obtain ⟨-, -, -, -, -, c5⟩ := hI.cells
    obtain ⟨d1, -⟩ := hI.get hk
    clear hI hp HC hh
    generalize c[k]! = x at *
    generalize c.length = n at *
    unfold ptP at *
    go_enter Tryd.func28, Tryd.ntmps28
    go_wp2_with fail
    refine HC1.out.mono ?_
    rintro e w1 ⟨rfl, rfl⟩
    go_wp2
    go_ret
    exact ⟨ret_bool (by first | rfl | simp), rfl⟩
def blkT (c : List Int) (t : Int) : Bool := decide (0 < cntT c t)
theorem mblocked_call (hp : MpAt 74 w M pa g c) (t : Int) : Calls Tryd.prog 39 #[ptP pa, .int .i64 t] w fun e w' => e = .returned (.bool (blkT c t)) ∧ w = w' := by
  have HC := Lib.hid (mcount_call hp t)
  unfold blkT
  generalize cntT c t = x at *
  clear hp
  go_enter Tryd.func39, Tryd.ntmps39
  go_wp2_with fail
  refine HC.out.mono ?_
  rintro e w1 ⟨rfl, rfl⟩
  go_wp2
  go_ret
  exact ⟨rfl, rfl⟩
end
end Go.Proofs.YtmeinjkpbijaeaaDoor
