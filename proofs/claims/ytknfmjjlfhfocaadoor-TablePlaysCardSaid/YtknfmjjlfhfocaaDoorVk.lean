/-
  Components in memory; Check, the ranges, the reference's Check; the order of components; the closures handed to the library.
-/
import Derived.Test.YtknfmjjlfhfocaaDoorRow6
import Derived.Test.YtknfmjjlfhfocaaDoorVp
import Derived.Test.YtknfmjjlfhfocaaDoorMc6
namespace Go.Proofs.YtknfmjjlfhfocaaDoor
set_option linter.unusedSimpArgs false
set_option linter.unusedVariables false
open Go.RowKit Go.Sort Go.Lib Go.Shelf

def encV (x : Vl) : List Value := [.int .i64 x.1, .int .i64 x.2.1, .int .i64 x.2.2]
theorem lenV (x : Vl) : (encV x).length = 3 := rfl
theorem oneV (x : Vl) : ∀ v ∈ encV x, v.oneCell' = true := fun v hv => by simp [encV] at hv; rcases hv with rfl | rfl | rfl <;> rfl
theorem atV {w : World} {l : List Vl} {g o : Nat} (h : ∀ j u, (flat encV l)[j]? = some u → w.cell? ⟨g, o + j, none⟩ = some u) {i : Nat} (hi : i < l.length) :
    w.cell? ⟨g, o + i * 3, none⟩ = some (.int .i64 l[i]!.1) ∧ w.cell? ⟨g, o + i * 3 + 1, none⟩ = some (.int .i64 l[i]!.2.1) ∧ w.cell? ⟨g, o + i * 3 + 2, none⟩ = some (.int .i64 l[i]!.2.2) :=
  ⟨sl_at lenV h hi 0 _ rfl, sl_at lenV h hi 1 _ rfl, sl_at lenV h hi 2 _ rfl⟩
theorem apV : Ap encV 39 41 3 (.agg #[.int .i64 0, .int .i64 0, .int .i64 0]) 24 :=
  ⟨Tryd.underlying39, info_parts (by kernel_rfl), by decide, by decide, by decide, lenV, oneV⟩
/-- A component as a value. -/
def aggV (x : Vl) : Value := .agg #[.int .i64 x.1, .int .i64 x.2.1, .int .i64 x.2.2]
/-- An error by its number: none at 0. -/
def errV (A : Nat → Addr) (n : Nat) : Value := if n = 0 then .nilIface else .iface 141 (.pointer (some (A (n - 1))))
theorem errV_no (A : Nat → Addr) : errV A 0 = .nilIface := rfl
theorem errV_at (A : Nat → Addr) (n : Nat) (h : n ≠ 0) : errV A n = .iface 141 (.pointer (some (A (n - 1)))) := if_neg h

/-- The errors' variables that the code reads. -/
structure Er (w : World) (A : Nat → Addr) : Prop where
  range : w.cell? ⟨1, 0, none⟩ = some (.iface 141 (.pointer (some (A 0))))
  kind : w.cell? ⟨0, 0, none⟩ = some (.iface 141 (.pointer (some (A 4))))
theorem Er.below {w w' : World} {A : Nat → Addr} (h : Er w A) (hb : RowKit.Below w.heap.size w w') : Er w' A :=
  ⟨Bc hb (cell_lt h.range) h.range, Bc hb (cell_lt h.kind) h.kind⟩
theorem Er.k {w : World} {A : Nat → Addr} (h : Er w A) : ErrK w (A 4) := h.kind

/-! ### Ranges, Check. -/
theorem has_any (lo hi n : Int) (w : World) : Calls Tryd.prog 67 #[.agg #[.int .i64 lo, .int .i64 hi], .int .i64 n] w fun e w' => e = .returned (.bool (inV n (lo, hi))) ∧ Gr w w' := by
  go_enter Tryd.func67, Tryd.ntmps67
  go_wp2
  all_goals (go_ret; exact ⟨ret_bool (by simp [inV, *] <;> omega), (by repeat (first | with_reducible exact Gr.refl _ | with_reducible assumption | with_reducible apply Gr.alloc | with_reducible apply Gr.drewN | with_reducible apply Gr.drew | with_reducible apply Gr.grow | (with_reducible refine Gr.trans ?_ (by assumption))))⟩)
theorem in_any (n lo hi : Int) (w : World) : Calls Tryd.prog 54 #[.int .i64 n, .int .i64 lo, .int .i64 hi] w fun e w' => e = .returned (.bool (inV n (lo, hi))) ∧ w = w' := by
  go_enter Tryd.func54, Tryd.ntmps54
  go_wp2
  all_goals (go_ret; exact ⟨ret_bool (by simp [inV, *] <;> omega), rfl⟩)
/-- A kind's ranges, as the program hands them. -/
def rngA (k : Int) : Value := .tuple #[.agg #[.int .i64 (rngV k).1.1, .int .i64 (rngV k).1.2], .agg #[.int .i64 (rngV k).2.1, .int .i64 (rngV k).2.2]]

set_option maxHeartbeats 1000000 in
set_option maxRecDepth 100000 in
theorem spans_any (k : Int) (w : World) : Calls Tryd.prog 66 #[.int .i64 k] w fun e w' => e = .returned (rngA k) ∧ Gr w w' := by
  by_cases h0 : k = 0
  · subst h0
    rw [show rngA 0 = .tuple #[.agg #[.int .i64 (-1048576), .int .i64 1048576], .agg #[.int .i64 (-1048576), .int .i64 1048576]] from rfl]
    go_enter Tryd.func66, Tryd.ntmps66
    go_wp2_with fail
    go_region
    go_wp2
    exact bodyPost_ret (v := .tuple #[.agg #[.int .i64 (-1048576), .int .i64 1048576], .agg #[.int .i64 (-1048576), .int .i64 1048576]]) (by simp [results, Tryd.results66, go_sem, *]) rfl ⟨rfl, (by repeat (first | with_reducible exact Gr.refl _ | with_reducible assumption | with_reducible apply Gr.alloc | with_reducible apply Gr.drewN | with_reducible apply Gr.drew | with_reducible apply Gr.grow | (with_reducible refine Gr.trans ?_ (by assumption))))⟩
  · by_cases h2 : k = 2
    · subst h2
      rw [show rngA 2 = .tuple #[.agg #[.int .i64 (-1048576), .int .i64 1048576], .agg #[.int .i64 (-1048576), .int .i64 1048576]] from rfl]
      go_enter Tryd.func66, Tryd.ntmps66
      go_wp2_with fail
      go_region
      go_wp2
      exact bodyPost_ret (v := .tuple #[.agg #[.int .i64 (-1048576), .int .i64 1048576], .agg #[.int .i64 (-1048576), .int .i64 1048576]]) (by simp [results, Tryd.results66, go_sem, *]) rfl ⟨rfl, (by repeat (first | with_reducible exact Gr.refl _ | with_reducible assumption | with_reducible apply Gr.alloc | with_reducible apply Gr.drewN | with_reducible apply Gr.drew | with_reducible apply Gr.grow | (with_reducible refine Gr.trans ?_ (by assumption))))⟩
    · by_cases h1 : k = 1
      · subst h1
        rw [show rngA 1 = .tuple #[.agg #[.int .i64 0, .int .i64 1048576], .agg #[.int .i64 0, .int .i64 1048576]] from rfl]
        go_enter Tryd.func66, Tryd.ntmps66
        go_wp2_with fail
        go_region
        go_wp2
        exact bodyPost_ret (v := .tuple #[.agg #[.int .i64 0, .int .i64 1048576], .agg #[.int .i64 0, .int .i64 1048576]]) (by simp [results, Tryd.results66, go_sem, *]) rfl ⟨rfl, (by repeat (first | with_reducible exact Gr.refl _ | with_reducible assumption | with_reducible apply Gr.alloc | with_reducible apply Gr.drewN | with_reducible apply Gr.drew | with_reducible apply Gr.grow | (with_reducible refine Gr.trans ?_ (by assumption))))⟩
      · by_cases h3 : k = 3
        · subst h3
          rw [show rngA 3 = .tuple #[.agg #[.int .i64 0, .int .i64 0], .agg #[.int .i64 0, .int .i64 0]] from rfl]
          go_enter Tryd.func66, Tryd.ntmps66
          go_wp2
          exact bodyPost_ret (v := .tuple #[.agg #[.int .i64 0, .int .i64 0], .agg #[.int .i64 0, .int .i64 0]]) (by simp [results, Tryd.results66, go_sem, *]) rfl ⟨rfl, (by repeat (first | with_reducible exact Gr.refl _ | with_reducible assumption | with_reducible apply Gr.alloc | with_reducible apply Gr.drewN | with_reducible apply Gr.drew | with_reducible apply Gr.grow | (with_reducible refine Gr.trans ?_ (by assumption))))⟩
        · by_cases h4 : k = 4
          · subst h4
            rw [show rngA 4 = .tuple #[.agg #[.int .i64 0, .int .i64 255], .agg #[.int .i64 0, .int .i64 0]] from rfl]
            go_enter Tryd.func66, Tryd.ntmps66
            go_wp2
            exact bodyPost_ret (v := .tuple #[.agg #[.int .i64 0, .int .i64 255], .agg #[.int .i64 0, .int .i64 0]]) (by simp [results, Tryd.results66, go_sem, *]) rfl ⟨rfl, (by repeat (first | with_reducible exact Gr.refl _ | with_reducible assumption | with_reducible apply Gr.alloc | with_reducible apply Gr.drewN | with_reducible apply Gr.drew | with_reducible apply Gr.grow | (with_reducible refine Gr.trans ?_ (by assumption))))⟩
          · by_cases h5 : k = 5
            · subst h5
              rw [show rngA 5 = .tuple #[.agg #[.int .i64 0, .int .i64 1048576], .agg #[.int .i64 0, .int .i64 0]] from rfl]
              go_enter Tryd.func66, Tryd.ntmps66
              go_wp2
              exact bodyPost_ret (v := .tuple #[.agg #[.int .i64 0, .int .i64 1048576], .agg #[.int .i64 0, .int .i64 0]]) (by simp [results, Tryd.results66, go_sem, *]) rfl ⟨rfl, (by repeat (first | with_reducible exact Gr.refl _ | with_reducible assumption | with_reducible apply Gr.alloc | with_reducible apply Gr.drewN | with_reducible apply Gr.drew | with_reducible apply Gr.grow | (with_reducible refine Gr.trans ?_ (by assumption))))⟩
            · have e : rngA k = .tuple #[.agg #[.int .i64 (-4194304), .int .i64 4194304], .agg #[.int .i64 (-4194304), .int .i64 4194304]] := by simp [rngA, rngV, h0, h1, h2, h3, h4, h5]
              rw [e]
              clear e
              go_enter Tryd.func66, Tryd.ntmps66
              go_wp2_with fail
              go_region
              go_wp2
              exact bodyPost_ret (v := .tuple #[.agg #[.int .i64 (-4194304), .int .i64 4194304], .agg #[.int .i64 (-4194304), .int .i64 4194304]]) (by simp [results, Tryd.results66, go_sem, *]) rfl ⟨rfl, (by repeat (first | with_reducible exact Gr.refl _ | with_reducible assumption | with_reducible apply Gr.alloc | with_reducible apply Gr.drewN | with_reducible apply Gr.drew | with_reducible apply Gr.grow | (with_reducible refine Gr.trans ?_ (by assumption))))⟩
end Go.Proofs.YtknfmjjlfhfocaaDoor
