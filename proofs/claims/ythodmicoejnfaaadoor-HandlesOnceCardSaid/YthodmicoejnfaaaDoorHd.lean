/-
  Lives, at a pool in memory.
-/
import Derived.Test.YthodmicoejnfaaaDoorHc
namespace Go.Proofs.YthodmicoejnfaaaDoor
set_option linter.unusedSimpArgs false
set_option linter.unusedVariables false
open Go.RowKit Go.Sort Go.Lib Go.Shelf

section
variable {T pa : Nat} {S : List Slt} {Fr : List Int} {M : Nat → Prop} {w : World}

theorem isPlace_yes (p : Option Addr) (n cap : Nat) (i : Int) (w : World) (h1 : 0 ≤ i) (h2 : i < n) : Calls Tryd.prog 39 #[.slice p n cap, .int .i64 i] w fun e w' => e = .returned (.bool true) ∧ w = w' := by
  go_enter Tryd.func39, Tryd.ntmps39
  go_wp2
  go_ret
  exact ⟨rfl, rfl⟩
theorem isPlace_no (p : Option Addr) (n cap : Nat) (i : Int) (w : World) (h : ¬ (0 ≤ i ∧ i < n)) : Calls Tryd.prog 39 #[.slice p n cap, .int .i64 i] w fun e w' => e = .returned (.bool false) ∧ w = w' := by
  by_cases a : 0 ≤ i
  · have b : ¬ i < n := fun b => h ⟨a, b⟩
    clear h
    go_enter Tryd.func39, Tryd.ntmps39
    go_wp2
    go_ret
    exact ⟨rfl, rfl⟩
  · clear h
    go_enter Tryd.func39, Tryd.ntmps39
    go_wp2
    go_ret
    exact ⟨rfl, rfl⟩

set_option maxHeartbeats 2000000 in
set_option maxRecDepth 100000 in
theorem lives_yes (hp : PoolAt 67 w M pa S Fr) (i g : Int) (h1 : 0 ≤ i) (h2 : i < S.length) :
    Calls Tryd.prog 18 #[.pointer (some ⟨pa, 0, none⟩), .agg #[.int .i64 i, .int .i64 g]] w fun e w' => e = .returned (.bool (decide (S[i.toNat]! = (g, true)))) ∧ RowKit.Below w.heap.size w w' := by
  obtain ⟨ps, cs, pf, cf, c0, c1, f0, f1, hl, a1, a2, b1, b2, hS, _, _, _⟩ := pool_open hp
  obtain ⟨gs, rfl, hgs, cS⟩ := hS.out (by omega)
  obtain ⟨n, rfl⟩ : ∃ n : Nat, i = n := ⟨i.toNat, by omega⟩
  rw [Int.toNat_natCast]
  obtain ⟨d1, d2⟩ := cS n (by omega)
  generalize hx : S[n]! = x at d1 d2 ⊢
  obtain ⟨x1, x2⟩ := x
  dsimp only at d1 d2
  clear cS hS hp hx
  generalize S.length = K at *
  clear h1
  have e1 : (0 : Int) ≤ (n : Int) := by omega
  have e2 : n < K := by omega
  have eq1 := eqS_run
  have gd1 := gdS_run
  go_enter Tryd.func18, Tryd.ntmps18
  go_wp2
  go_region_held3 (fun w' => Below (w.alloc (.cells #[.int .i64 n, .int .i64 g] 40)).heap.size (w.alloc (.cells #[.int .i64 n, .int .i64 g] 40)) w' ∧ ∀ b_1 o, b_1 < (w.alloc (.cells #[.int .i64 n, .int .i64 g] 40)).heap.size → w'.cell? ⟨b_1, o, none⟩ = (w.alloc (.cells #[.int .i64 n, .int .i64 g] 40)).cell? ⟨b_1, o, none⟩) (first | exact keep0 _ | exact keepB (by assumption) hb1 | assumption) ((first | (go_at_call 39; refine (isPlace_yes _ _ _ _ _ e1 h2).mono ?_; rintro e w1 ⟨rfl, rfl⟩) | (go_at_call 36; refine (taken_call _ _ _).mono ?_; rintro e w1 ⟨rfl, hb1⟩)))
  all_goals
    go_wp2
    go_ret
    exact ⟨ret_bool (by cases x2 <;> simp), (by repeat (first | with_reducible exact Below.refl _ _ | with_reducible assumption | with_reducible apply Ba | with_reducible apply Bd | with_reducible apply Bn | with_reducible apply Bg | (with_reducible refine Bs ?_ (by first | (simp; done) | (simp; omega)) _) | (with_reducible refine Bt ?_ (by assumption)) | (with_reducible refine Bt ?_ (Gr.below (by assumption)))))⟩
set_option maxHeartbeats 2000000 in
set_option maxRecDepth 100000 in
theorem lives_no (hp : PoolAt 67 w M pa S Fr) (i g : Int) (h : ¬ (0 ≤ i ∧ i < S.length)) :
    Calls Tryd.prog 18 #[.pointer (some ⟨pa, 0, none⟩), .agg #[.int .i64 i, .int .i64 g]] w fun e w' => e = .returned (.bool false) ∧ RowKit.Below w.heap.size w w' := by
  obtain ⟨ps, cs, pf, cf, c0, c1, f0, f1, hl, a1, a2, b1, b2, _, _, _, _⟩ := pool_open hp
  have HH := Lib.hid h
  clear hp h
  generalize S.length = K at *
  go_enter Tryd.func18, Tryd.ntmps18
  go_wp2
  go_quiet ((go_at_call 39; exact Calls.quiet_of_same ((isPlace_no _ _ _ _ _ HH.out).mono fun _ _ h => ⟨h.1, h.2.symm⟩)))
  go_wp2
  go_ret
  exact ⟨rfl, (by repeat (first | with_reducible exact Below.refl _ _ | with_reducible assumption | with_reducible apply Ba | with_reducible apply Bd | with_reducible apply Bn | with_reducible apply Bg | (with_reducible refine Bs ?_ (by first | (simp; done) | (simp; omega)) _) | (with_reducible refine Bt ?_ (by assumption)) | (with_reducible refine Bt ?_ (Gr.below (by assumption)))))⟩
theorem lives_call (hp : PoolAt 67 w M pa S Fr) (i g : Int) :
    Calls Tryd.prog 18 #[.pointer (some ⟨pa, 0, none⟩), .agg #[.int .i64 i, .int .i64 g]] w fun e w' => e = .returned (.bool (livesP S (i, g))) ∧ RowKit.Below w.heap.size w w' := by
  by_cases h : 0 ≤ i ∧ i < S.length
  · have e : livesP S (i, g) = decide (S[i.toNat]! = (g, true)) := by
      unfold livesP
      rw [decide_eq_decide]
      exact ⟨fun k => k.2.2, fun k => ⟨h.1, h.2, k⟩⟩
    rw [e]
    exact lives_yes hp i g h.1 h.2
  · have e : livesP S (i, g) = false := by
      unfold livesP
      exact decide_eq_false (fun k => h ⟨k.1, k.2.1⟩)
    rw [e]
    exact lives_no hp i g h
end
end Go.Proofs.YthodmicoejnfaaaDoor
