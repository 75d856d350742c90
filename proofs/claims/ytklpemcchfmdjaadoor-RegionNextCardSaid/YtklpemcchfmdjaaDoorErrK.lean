/-
  errors.Is and paddocknum.Num at the project's own errors, out of what the errors' variables hold.
-/
import Derived.Test.YtklpemcchfmdjaaDoorKit
import Derived.LaidEql
import Derived.Stop.Asserts
import Derived.RowKitTokens
import Derived.LoopTactic
namespace Go.Proofs.YtklpemcchfmdjaaDoor
set_option linter.unusedSimpArgs false
set_option linter.unusedVariables false
open Go.RowKit Go.Extern.Stop Go.Stop Go.Extern Go.Lib

theorem isTypeOf (v : Value) (w : World) : (Extern.ReflectliteType.typeOf #[.iface 114 v]).run Tryd.prog w = .ok (.iface 79 (.agg #[.pointer (some ⟨10, 114, none⟩)])) w := by kernel_rfl
theorem isComparable (w : World) : (callFunc 89 #[.agg #[.pointer (some ⟨10, 114, none⟩)]]).run Tryd.prog w = .ok (.value (.bool true)) w := by kernel_rfl
theorem isMethodComparable (v : Value) (w : World) : (Go.method 250 79 v "Comparable").run Tryd.prog w = .ok (89, v) w := by kernel_rfl
theorem isComp : (Tryd.prog.info? 114).map (·.comparable) = some true := by kernel_rfl
theorem isSize : (Tryd.prog.info? 138).map (·.size) = some 1 := by kernel_rfl
theorem noIsE (v : Value) (xT : TypeId) (w : World) : (Instr.typeAssert (.iface 114 v) xT 81 true).run Tryd.prog w = .ok (.tuple #[.nilIface, .bool false]) w := run_typeAssert_lacksB Tryd.underlying81 (by kernel_rfl) (by kernel_rfl) v xT w
theorem noUnwrapE (v : Value) (xT : TypeId) (w : World) : (Instr.typeAssert (.iface 114 v) xT 84 true).run Tryd.prog w = .ok (.tuple #[.nilIface, .bool false]) w := run_typeAssert_lacksB Tryd.underlying84 (by kernel_rfl) (by kernel_rfl) v xT w
theorem noUnwrapsE (v : Value) (xT : TypeId) (w : World) : (Instr.typeAssert (.iface 114 v) xT 86 true).run Tryd.prog w = .ok (.tuple #[.nilIface, .bool false]) w := run_typeAssert_lacksB Tryd.underlying86 (by kernel_rfl) (by kernel_rfl) v xT w

set_option maxRecDepth 100000 in
/-- errors.Is(x, x), x a pointer to an errors.errorString. -/
theorem is_same (a : Addr) (w : World) :
    Calls Tryd.prog 28 #[.iface 114 (.pointer (some a)), .iface 114 (.pointer (some a))] w fun e w' => e = .returned (.bool true) ∧ w = w' := by
  obtain ⟨i, hi, hcmp⟩ := Option.map_eq_some_iff.1 isComp
  obtain ⟨j, hj, hjs⟩ := Option.map_eq_some_iff.1 isSize
  have h8 := @run_callFunc_extern Tryd.prog 39 _ Extern.ReflectliteType.typeOf Tryd.func39 (by kernel_rfl) (by kernel_rfl) (by kernel_rfl) (by kernel_rfl)
  have tT := isTypeOf
  have cT := isComparable
  have mR := isMethodComparable
  have heq := run_eql_iface_ptr_same (P := Tryd.prog) w a Tryd.underlying28 Tryd.underlying114 hi hcmp hj
  go_enter Tryd.func28, Tryd.ntmps28
  go_wp2
  refine wp_loop_rounds 1 ?_
  rw [rounds_succ]
  go_wp2
  go_ret
  exact ⟨rfl, rfl⟩

set_option maxRecDepth 100000 in
/-- errors.Is(x, y), two different pointers to errors.errorString: neither has Is nor Unwrap: false. -/
theorem is_other (a b : Addr) (ca cb : Array Value) (ta tb : TypeId) (w : World) (hne : a ≠ b) (ha : w.heap[a.block]? = some (.cells ca ta (0, 0))) (hb : w.heap[b.block]? = some (.cells cb tb (0, 0))) :
    Calls Tryd.prog 28 #[.iface 114 (.pointer (some a)), .iface 114 (.pointer (some b))] w fun e w' => e = .returned (.bool false) ∧ w = w' := by
  obtain ⟨i, hi, hcmp⟩ := Option.map_eq_some_iff.1 isComp
  obtain ⟨j, hj, hjs⟩ := Option.map_eq_some_iff.1 isSize
  have h8 := @run_callFunc_extern Tryd.prog 39 _ Extern.ReflectliteType.typeOf Tryd.func39 (by kernel_rfl) (by kernel_rfl) (by kernel_rfl) (by kernel_rfl)
  have tT := isTypeOf
  have cT := isComparable
  have mR := isMethodComparable
  have nE := noIsE
  have uE := noUnwrapE
  have vE := noUnwrapsE
  have heq := run_eql_iface_ptr_other (P := Tryd.prog) w Tryd.underlying28 Tryd.underlying114 hi hcmp hj (by rw [hjs]; decide) hne ha hb
  go_enter Tryd.func28, Tryd.ntmps28
  go_wp2
  refine wp_loop_rounds 1 ?_
  rw [rounds_succ]
  go_wp2
  go_ret
  exact ⟨rfl, rfl⟩

/-- The variable of error number i + 1. -/
def errG : List Nat := [1, 2, 3, 4, 5, 6, 0, 7, 8, 9]
/-- The errors' variables hold ten different errors of errors.New's make. -/
structure Errs (W : World) (A : Nat → Addr) : Prop where
  cell : ∀ i, i < 10 → W.cell? ⟨errG.getD i 0, 0, none⟩ = some (.iface 114 (.pointer (some (A i))))
  blk : ∀ i, i < 10 → ∃ c t, W.heap[(A i).block]? = some (.cells c t (0, 0))
  apart : ∀ i j, i < 10 → j < 10 → i ≠ j → A i ≠ A j
theorem Errs.below {W W' : World} {A : Nat → Addr} (h : Errs W A) (hb : Below W.heap.size W W') : Errs W' A :=
  ⟨fun i hi => Bc hb (cell_lt (h.cell i hi)) (h.cell i hi), fun i hi => by
    obtain ⟨c, t, k⟩ := h.blk i hi
    refine ⟨c, t, (hb.block _ ?_).trans k⟩
    rcases Nat.lt_or_ge (A i).block W.heap.size with h' | h'
    · exact h'
    · simp [Array.getElem?_eq_none h'] at k, h.apart⟩
theorem is_not {A : Nat → Addr} {w : World} (h : Errs w A) (i j : Nat) (hi : i < 10) (hj : j < 10) (hne : j < i) :
    Calls Tryd.prog 28 #[.iface 114 (.pointer (some (A i))), .iface 114 (.pointer (some (A j)))] w fun e w' => e = .returned (.bool false) ∧ w = w' := by
  obtain ⟨c1, t1, h1⟩ := h.blk i hi
  obtain ⟨c2, t2, h2⟩ := h.blk j hj
  exact is_other _ _ c1 c2 t1 t2 w (h.apart i j hi hj (by omega)) h1 h2

theorem num_nil (w : World) : Calls Tryd.prog 10 #[.nilIface] w fun e w' => e = .returned (.int .i64 0) ∧ Below w.heap.size w w' := by
  go_enter Tryd.func10, Tryd.ntmps10
  go_wp2
  go_ret
  exact ⟨rfl, (by repeat (first | with_reducible exact Below.refl _ _ | with_reducible assumption | with_reducible apply Ba | with_reducible apply Bd | with_reducible apply Bn | with_reducible apply Bg | (with_reducible refine Bs ?_ (by first | (simp; done) | (simp; omega)) _) | (with_reducible refine Bt ?_ (by assumption)) | (with_reducible refine Bt ?_ (Gr.below (by assumption)))))⟩

set_option maxRecDepth 100000 in
set_option maxHeartbeats 1000000 in
theorem num_anyG {A : Nat → Addr} {w : World} (h : Errs w A) (k : Nat) (hk : k < 10) :
    Calls Tryd.prog 10 #[.iface 114 (.pointer (some (A k)))] w fun e w' => e = .returned (.int .i64 ((k : Int) + 1)) ∧ Gr w w' := by
  have g0 := h.cell 0 (by omega)
  have g1 := h.cell 1 (by omega)
  have g2 := h.cell 2 (by omega)
  have g3 := h.cell 3 (by omega)
  have g4 := h.cell 4 (by omega)
  have g5 := h.cell 5 (by omega)
  have g6 := h.cell 6 (by omega)
  have g7 := h.cell 7 (by omega)
  have g8 := h.cell 8 (by omega)
  have g9 := h.cell 9 (by omega)
  simp only [errG, List.getD_cons_zero, List.getD_cons_succ] at g0 g1 g2 g3 g4 g5 g6 g7 g8 g9
  have hE : Errs (w.alloc (.cells #[.iface 114 (.pointer (some (A 0))), .iface 114 (.pointer (some (A 1))), .iface 114 (.pointer (some (A 2))), .iface 114 (.pointer (some (A 3))), .iface 114 (.pointer (some (A 4))), .iface 114 (.pointer (some (A 5))), .iface 114 (.pointer (some (A 6))), .iface 114 (.pointer (some (A 7))), .iface 114 (.pointer (some (A 8))), .iface 114 (.pointer (some (A 9)))] 28)) A := h.below (Ba (Below.refl _ _) _)
  have hcell : ∀ j, j < 10 → (w.alloc (.cells #[.iface 114 (.pointer (some (A 0))), .iface 114 (.pointer (some (A 1))), .iface 114 (.pointer (some (A 2))), .iface 114 (.pointer (some (A 3))), .iface 114 (.pointer (some (A 4))), .iface 114 (.pointer (some (A 5))), .iface 114 (.pointer (some (A 6))), .iface 114 (.pointer (some (A 7))), .iface 114 (.pointer (some (A 8))), .iface 114 (.pointer (some (A 9)))] 28)).cell? ⟨w.heap.size, j, none⟩ = some (.iface 114 (.pointer (some (A j)))) := by
    intro j hj
    obtain rfl | rfl | rfl | rfl | rfl | rfl | rfl | rfl | rfl | rfl : j = 0 ∨ j = 1 ∨ j = 2 ∨ j = 3 ∨ j = 4 ∨ j = 5 ∨ j = 6 ∨ j = 7 ∨ j = 8 ∨ j = 9 := by omega
    all_goals simp
  have hC := Lib.hid hcell
  clear hcell
  go_enter Tryd.func10, Tryd.ntmps10
  go_wp2
  clear g0 g1 g2 g3 g4 g5 g6 g7 g8 g9
  go_loop [21] (fun i => ∃ j : Nat, j ≤ k ∧ i = .int .i64 j) (fun i => (10 - intOf i).toNat)
  case atStart => exact ⟨0, Nat.zero_le _, rfl⟩
  case round =>
    obtain ⟨j, hj, rfl⟩ := hrel
    have hjc := hC.out j (by omega)
    by_cases hjk : j = k
    · subst hjk
      go_wp2_with (go_at_call 28; refine (is_same _ _).mono ?_; rintro e w' ⟨rfl, rfl⟩)
      go_ret
      exact ⟨rfl, (by repeat (first | with_reducible exact Gr.refl _ | with_reducible assumption | with_reducible apply Gr.alloc | with_reducible apply Gr.drewN | with_reducible apply Gr.drew | with_reducible apply Gr.grow | (with_reducible refine Gr.trans ?_ (by assumption))))⟩
    · have hjl : j < k := by omega
      go_wp2_with (go_at_call 28; refine (is_not hE k j hk (by omega) hjl).mono ?_; rintro e w' ⟨rfl, rfl⟩)
      go_round
      case rel => exact ⟨j + 1, by omega, by go_num⟩
      case measure => simp [intOf]; omega

theorem num_any {A : Nat → Addr} {w : World} (h : Errs w A) (k : Nat) (hk : k < 10) :
    Calls Tryd.prog 10 #[.iface 114 (.pointer (some (A k)))] w fun e w' => e = .returned (.int .i64 ((k : Int) + 1)) ∧ Below w.heap.size w w' :=
  (num_anyG h k hk).mono fun e w' ⟨a, b⟩ => ⟨a, b.below⟩
theorem num_range {A : Nat → Addr} {w : World} (h : Errs w A) : Calls Tryd.prog 10 #[.iface 114 (.pointer (some (A 0)))] w fun e w' => e = .returned (.int .i64 1) ∧ Below w.heap.size w w' := num_any h 0 (by omega)
theorem num_full {A : Nat → Addr} {w : World} (h : Errs w A) : Calls Tryd.prog 10 #[.iface 114 (.pointer (some (A 1)))] w fun e w' => e = .returned (.int .i64 2) ∧ Below w.heap.size w w' := num_any h 1 (by omega)
theorem num_none {A : Nat → Addr} {w : World} (h : Errs w A) : Calls Tryd.prog 10 #[.iface 114 (.pointer (some (A 2)))] w fun e w' => e = .returned (.int .i64 3) ∧ Below w.heap.size w w' := num_any h 2 (by omega)
theorem num_exists {A : Nat → Addr} {w : World} (h : Errs w A) : Calls Tryd.prog 10 #[.iface 114 (.pointer (some (A 3)))] w fun e w' => e = .returned (.int .i64 4) ∧ Below w.heap.size w w' := num_any h 3 (by omega)
theorem num_kind {A : Nat → Addr} {w : World} (h : Errs w A) : Calls Tryd.prog 10 #[.iface 114 (.pointer (some (A 4)))] w fun e w' => e = .returned (.int .i64 5) ∧ Below w.heap.size w w' := num_any h 4 (by omega)
theorem num_state {A : Nat → Addr} {w : World} (h : Errs w A) : Calls Tryd.prog 10 #[.iface 114 (.pointer (some (A 5)))] w fun e w' => e = .returned (.int .i64 6) ∧ Below w.heap.size w w' := num_any h 5 (by omega)
theorem num_form {A : Nat → Addr} {w : World} (h : Errs w A) : Calls Tryd.prog 10 #[.iface 114 (.pointer (some (A 6)))] w fun e w' => e = .returned (.int .i64 7) ∧ Below w.heap.size w w' := num_any h 6 (by omega)
theorem num_blocked {A : Nat → Addr} {w : World} (h : Errs w A) : Calls Tryd.prog 10 #[.iface 114 (.pointer (some (A 7)))] w fun e w' => e = .returned (.int .i64 8) ∧ Below w.heap.size w w' := num_any h 7 (by omega)
theorem num_path {A : Nat → Addr} {w : World} (h : Errs w A) : Calls Tryd.prog 10 #[.iface 114 (.pointer (some (A 8)))] w fun e w' => e = .returned (.int .i64 9) ∧ Below w.heap.size w w' := num_any h 8 (by omega)
theorem num_goal {A : Nat → Addr} {w : World} (h : Errs w A) : Calls Tryd.prog 10 #[.iface 114 (.pointer (some (A 9)))] w fun e w' => e = .returned (.int .i64 10) ∧ Below w.heap.size w w' := num_any h 9 (by omega)

end Go.Proofs.YtklpemcchfmdjaaDoor
