/-
  What of package handles only reads: Next, Lives, at a pool in memory.
-/
import Derived.Test.YthodmicoejnfaaaDoorHb
namespace Go.Proofs.YthodmicoejnfaaaDoor
set_option linter.unusedSimpArgs false
set_option linter.unusedVariables false
open Go.RowKit Go.Sort Go.Lib Go.Shelf

section
variable {T pa : Nat} {S : List Slt} {Fr : List Int} {M : Nat → Prop} {w : World}

theorem row_cellsS {l : List Slt} {g n cap : Nat} (h : w.ownsRow 0 63 2 (.slice (some ⟨g, 0, none⟩) n cap) n (flat encS l)) (hn : n = l.length) : ∀ k, k < l.length → w.cell? ⟨g, k * 2, none⟩ = some (.int .i64 l[k]!.1) ∧ w.cell? ⟨g, k * 2 + 1, none⟩ = some (.bool l[k]!.2) := fun k hk => by
  have hc : ∀ j u, (flat encS l)[j]? = some u → w.cell? ⟨g, 0 + j, none⟩ = some u := fun j u hu => by
    have hj := (List.getElem?_eq_some_iff.1 hu).1
    rw [Nat.zero_add, h.cellAt j (by rw [← h.1]; exact hj)]
    exact hu
  have := atS hc hk
  simpa using this
theorem row_cellsI {l : List Int} {g n cap : Nat} (h : w.ownsRow 0 3 1 (.slice (some ⟨g, 0, none⟩) n cap) n (flat encI l)) (hn : n = l.length) : ∀ k, k < l.length → w.cell? ⟨g, k, none⟩ = some (.int .i64 l[k]!) := fun k hk => by
  have hc : ∀ j u, (flat encI l)[j]? = some u → w.cell? ⟨g, 0 + j, none⟩ = some u := fun j u hu => by
    have hj := (List.getElem?_eq_some_iff.1 hu).1
    rw [Nat.zero_add, h.cellAt j (by rw [← h.1]; exact hj)]
    exact hu
  have := atI hc hk
  simpa using this

/-- All that a walk reads of a pool. -/
theorem pool_open (h : PoolAt T w M pa S Fr) : ∃ ps cs pf cf, w.cell? ⟨pa, 0, none⟩ = some (.slice ps S.length cs) ∧ w.cell? ⟨pa, 1, none⟩ = some (.slice pf Fr.length cf) ∧ w.frozen? ⟨pa, 0, none⟩ = false ∧ w.frozen? ⟨pa, 1, none⟩ = false ∧ pa < w.heap.size ∧
    S.length ≤ cs ∧ cs ≤ 9223372036854775807 ∧ Fr.length ≤ cf ∧ cf ≤ 9223372036854775807 ∧
    Hid (0 < S.length → ∃ gs, ps = some ⟨gs, 0, none⟩ ∧ gs < w.heap.size ∧ ∀ k, k < S.length → w.cell? ⟨gs, k * 2, none⟩ = some (.int .i64 S[k]!.1) ∧ w.cell? ⟨gs, k * 2 + 1, none⟩ = some (.bool S[k]!.2)) ∧
    Hid (0 < Fr.length → ∃ gf, pf = some ⟨gf, 0, none⟩ ∧ gf < w.heap.size ∧ ∀ k, k < Fr.length → w.cell? ⟨gf, k, none⟩ = some (.int .i64 Fr[k]!)) ∧ Sl encS w (.slice ps S.length cs) S ∧ Sl encI w (.slice pf Fr.length cf) Fr := by
  have hl := h.lt
  obtain ⟨vs, vf, h1, h2, h3, h4⟩ := h
  obtain ⟨c0, c1, f0, f1⟩ := two_cells h1
  obtain ⟨ps, cs, rfl, a1, a2, a3⟩ := row_val h3.1
  obtain ⟨pf, cf, rfl, b1, b2, b3⟩ := row_val h4.1
  unfold maxLen at a2 b2
  refine ⟨ps, cs, pf, cf, c0, c1, f0, f1, hl, a1, a2, b1, b2, Lib.hid (fun hp => ?_), Lib.hid (fun hp => ?_), h3.sl lenS, h4.sl lenI⟩
  · obtain ⟨g, rfl, hg, _⟩ := a3 hp
    exact ⟨g, rfl, hg, row_cellsS h3.1 rfl⟩
  · obtain ⟨g, rfl, hg, _⟩ := b3 hp
    exact ⟨g, rfl, hg, row_cellsI h4.1 rfl⟩

set_option maxHeartbeats 1000000 in
set_option maxRecDepth 100000 in
theorem next_free (hp : PoolAt 67 w M pa S Fr) (r : Right S Fr) (hf : 0 < Fr.length) :
    Calls Tryd.prog 35 #[.pointer (some ⟨pa, 0, none⟩)] w fun e w' => e = .returned (.tuple #[.agg #[.int .i64 (topF Fr), .int .i64 S[(topF Fr).toNat]!.1], .nilIface]) ∧ RowKit.Below w.heap.size w w' := by
  obtain ⟨ps, cs, pf, cf, c0, c1, f0, f1, hl, a1, a2, b1, b2, hS, hF, _, _⟩ := pool_open hp
  obtain ⟨t1, t2, _⟩ := r.top hf
  obtain ⟨gf, rfl, hgf, cF⟩ := hF.out hf
  obtain ⟨gs, rfl, hgs, cS⟩ := hS.out (by omega)
  have d1 := cF (Fr.length - 1) (by omega)
  have d2 := (cS _ t2).1
  change w.cell? ⟨gf, Fr.length - 1, none⟩ = some (.int .i64 (topF Fr)) at d1
  obtain ⟨n, hn⟩ : ∃ n : Nat, topF Fr = n := ⟨(topF Fr).toNat, by omega⟩
  rw [hn] at t2 d1 d2 ⊢
  rw [Int.toNat_natCast] at t2 d2 ⊢
  generalize S[n]!.1 = gen at d2 ⊢
  clear cS cF hF hS hp r hn t1
  generalize hL : Fr.length = L at *
  generalize hK : S.length = K at *
  clear hL hK
  go_enter Tryd.func35, Tryd.ntmps35
  go_wp2
  go_quiet (fail)
  go_wp2
  exact bodyPost_ret (v := .tuple #[.agg #[.int .i64 n, .int .i64 gen], .nilIface]) (by simp [results, Tryd.results35, go_sem]) rfl ⟨rfl, (by repeat (first | with_reducible exact Below.refl _ _ | with_reducible assumption | with_reducible apply Ba | with_reducible apply Bd | with_reducible apply Bn | with_reducible apply Bg | (with_reducible refine Bs ?_ (by first | (simp; done) | (simp; omega)) _) | (with_reducible refine Bt ?_ (by assumption)) | (with_reducible refine Bt ?_ (Gr.below (by assumption)))))⟩
set_option maxHeartbeats 1000000 in
set_option maxRecDepth 100000 in
theorem next_new (hp : PoolAt 67 w M pa S Fr) (r : Right S Fr) (hf : ¬ 0 < Fr.length) (hs : ¬ S.length = 128) :
    Calls Tryd.prog 35 #[.pointer (some ⟨pa, 0, none⟩)] w fun e w' => e = .returned (.tuple #[.agg #[.int .i64 S.length, .int .i64 1], .nilIface]) ∧ RowKit.Below w.heap.size w w' := by
  obtain ⟨ps, cs, pf, cf, c0, c1, f0, f1, hl, a1, a2, b1, b2, _, _, _, _⟩ := pool_open hp
  clear hp r
  have e : ((S.length : Int) == 128) = false := by simp; omega
  generalize S.length = K at *
  generalize Fr.length = L at *
  go_enter Tryd.func35, Tryd.ntmps35
  go_wp2
  exact bodyPost_ret (v := .tuple #[.agg #[.int .i64 K, .int .i64 1], .nilIface]) (by simp [results, Tryd.results35, go_sem]) rfl ⟨rfl, (by repeat (first | with_reducible exact Below.refl _ _ | with_reducible assumption | with_reducible apply Ba | with_reducible apply Bd | with_reducible apply Bn | with_reducible apply Bg | (with_reducible refine Bs ?_ (by first | (simp; done) | (simp; omega)) _) | (with_reducible refine Bt ?_ (by assumption)) | (with_reducible refine Bt ?_ (Gr.below (by assumption)))))⟩
set_option maxHeartbeats 1000000 in
set_option maxRecDepth 100000 in
theorem next_full (hp : PoolAt 67 w M pa S Fr) (hf : ¬ 0 < Fr.length) (hs : S.length = 128) (v : Value) (hE : w.cell? ⟨2, 0, none⟩ = some v) :
    Calls Tryd.prog 35 #[.pointer (some ⟨pa, 0, none⟩)] w fun e w' => e = .returned (.tuple #[.agg #[.int .i64 0, .int .i64 0], v]) ∧ RowKit.Below w.heap.size w w' := by
  obtain ⟨ps, cs, pf, cf, c0, c1, f0, f1, hl, a1, a2, b1, b2, _, _, _, _⟩ := pool_open hp
  clear hp
  have hg := cell_lt hE
  rw [hs] at c0 a1
  clear hs
  generalize Fr.length = L at *
  go_enter Tryd.func35, Tryd.ntmps35
  go_wp2
  go_region
  all_goals
    go_wp2
    exact bodyPost_ret (v := .tuple #[.agg #[.int .i64 0, .int .i64 0], v]) (by simp [results, Tryd.results35, go_sem]) rfl ⟨rfl, (by repeat (first | with_reducible exact Below.refl _ _ | with_reducible assumption | with_reducible apply Ba | with_reducible apply Bd | with_reducible apply Bn | with_reducible apply Bg | (with_reducible refine Bs ?_ (by first | (simp; done) | (simp; omega)) _) | (with_reducible refine Bt ?_ (by assumption)) | (with_reducible refine Bt ?_ (Gr.below (by assumption)))))⟩
end
end Go.Proofs.YthodmicoejnfaaaDoor
