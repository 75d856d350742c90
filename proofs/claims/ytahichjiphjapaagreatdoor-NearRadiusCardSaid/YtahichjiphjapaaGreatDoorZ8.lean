import Derived.Test.YtahichjiphjapaaGreatDoorZ36
import Derived.Test.YtahichjiphjapaaGreatDoorZ5
import Derived.ChangeKeysEq
import Derived.Test.YtahichjiphjapaaGreatDoorZ7

/-
  Package quad: a node's quarters; a node that is kept.
-/
namespace Go.Proofs.YtahichjiphjapaaGreatDoor
set_option linter.unusedSimpArgs false
set_option linter.unusedVariables false
open Go.RowKit Go.Sort Go.Lib Go.Shelf

theorem cells5 {w : World} {b : Nat} {t : TypeId} {a1 a2 a3 a4 a5 : Value} (h : w.heap[b]? = some (.cells #[a1, a2, a3, a4, a5] t (0, 0))) :
    w.cell? ⟨b, 0, none⟩ = some a1 ∧ w.cell? ⟨b, 1, none⟩ = some a2 ∧ w.cell? ⟨b, 2, none⟩ = some a3 ∧ w.cell? ⟨b, 3, none⟩ = some a4 ∧ w.cell? ⟨b, 4, none⟩ = some a5 := by
  refine ⟨?_, ?_, ?_, ?_, ?_⟩ <;> simp [World.cell?, h]
theorem blk_cell {w : World} {b : Nat} {t : TypeId} {cs : Array Value} (h : w.heap[b]? = some (.cells cs t (0, 0))) (o : Nat) : w.cell? ⟨b, o, none⟩ = cs[o]? := by
  simp [World.cell?, h]
theorem nd_at (rv : Value) (q : Q4) {i : Nat} (hi : i < 4) : (ndC rv q)[1 + i]? = some (pV (q.at i)) := by
  rcases (show i = 0 ∨ i = 1 ∨ i = 2 ∨ i = 3 by omega) with rfl | rfl | rfl | rfl <;> rfl
section
variable {w : World} {M : Nat → Prop} {n : Nat} {R : Rw} {rv : Value} {q : Q4}
set_option maxHeartbeats 1000000 in
set_option maxRecDepth 100000 in
theorem nquarter_call (h : NdV w M (n + 1) R rv q) {i : Nat} (hi : i < 4) :
    Calls Tryz.prog 73 #[ndV rv q, .int .i64 i] w fun e w' => ∃ v', e = .returned v' ∧ IsNd w' M n (subR R i) v' ∧ RowKit.Below w.heap.size w w' := by
  have hp := h.at hi
  have hat := nd_at rv q hi
  clear h
  obtain ⟨q1, q2, q3, q4⟩ := q
  replace hat : ([rv, pV q1, pV q2, pV q3, pV q4] : List Value)[1 + i]? = some (pV (Q4.at (q1, q2, q3, q4) i)) := by simpa [ndC] using hat
  unfold ndV ndC at *
  cases hq : Q4.at (q1, q2, q3, q4) i with
  | none =>
    rw [hq] at hp hat
    rw [show pV none = .pointer none from rfl] at hat
    have NN := Lib.hid (fun w' : World => nd_no (w := w') (M := M) (PtrV.none_iff hp |>.1 rfl) n)
    clear hp hq
    go_enter Tryz.func73, Tryz.ntmps73
    go_wp2
    refine bodyPost_ret (v := .agg #[.slice none 0 0, .pointer none, .pointer none, .pointer none, .pointer none]) ?_ rfl ?_
    · simp [results, Tryz.results73, go_sem, *]
    · exact ⟨_, rfl, ⟨_, (none, none, none, none), rfl, NN.out _⟩, (by repeat (first | with_reducible exact Below.refl _ _ | with_reducible assumption | with_reducible apply Ba | with_reducible apply Bd | with_reducible apply Bn | with_reducible apply Bg | (with_reducible refine Bs ?_ (by first | (simp; done) | (simp; omega)) _) | (with_reducible refine Bt ?_ (by assumption)) | (with_reducible refine Bt ?_ (Gr.below (by assumption)))))⟩
  | some b =>
    rw [hq] at hp hat
    rw [show pV (some b) = .pointer (some ⟨b, 0, none⟩) from rfl] at hat
    obtain ⟨_, _, rv', q', hb, hn⟩ := PtrV.some_iff.1 hp
    have HN := Lib.hid hn
    obtain ⟨p1, p2, p3, p4⟩ := q'
    obtain ⟨p0, cap, rfl, _, _⟩ := hn.val
    unfold ndC at hb
    obtain ⟨c1, c2, c3, c4, c5⟩ := cells5 hb
    have hbl := cell_lt c1
    clear hp hq hn hb
    go_enter Tryz.func73, Tryz.ntmps73
    go_wp2
    refine bodyPost_ret (v := .agg #[.slice p0 (subR R i []).length cap, pV p1, pV p2, pV p3, pV p4]) ?_ rfl ?_
    · simp [results, Tryz.results73, go_sem, *]
    · exact ⟨_, rfl, ⟨_, (p1, p2, p3, p4), rfl, HN.out.below (by repeat (first | with_reducible exact Below.refl _ _ | with_reducible assumption | with_reducible apply Ba | with_reducible apply Bd | with_reducible apply Bn | with_reducible apply Bg | (with_reducible refine Bs ?_ (by first | (simp; done) | (simp; omega)) _) | (with_reducible refine Bt ?_ (by assumption)) | (with_reducible refine Bt ?_ (Gr.below (by assumption)))))⟩, (by repeat (first | with_reducible exact Below.refl _ _ | with_reducible assumption | with_reducible apply Ba | with_reducible apply Bd | with_reducible apply Bn | with_reducible apply Bg | (with_reducible refine Bs ?_ (by first | (simp; done) | (simp; omega)) _) | (with_reducible refine Bt ?_ (by assumption)) | (with_reducible refine Bt ?_ (Gr.below (by assumption)))))⟩
end
theorem eqPtr_run (d : Nat) (x : Option Nat) (w : World) : (Op.equalIn (d + 1) 80 (.pointer (aV x)) (.pointer none)).run Tryz.prog w = .ok (decide (x = none)) w := by
  have u := Tryz.underlying80
  cases x <;> simp [Op.equalIn, run_underlying u, aV, go_sem]
set_option maxRecDepth 100000 in
theorem eqNil_run (q1 q2 q3 q4 : Option Nat) (w : World) : (binOp .eql 81 (.agg #[.pointer (aV q1), .pointer (aV q2), .pointer (aV q3), .pointer (aV q4)]) (.agg #[.pointer none, .pointer none, .pointer none, .pointer none])).run Tryz.prog w = .ok (.bool (decide (q1 = none) && (decide (q2 = none) && (decide (q3 = none) && decide (q4 = none))))) w := by
  obtain ⟨i, hi, _⟩ : ∃ i, Tryz.prog.info? 80 = some i ∧ i.zero = some (.pointer none) ∧ i.size = 1 ∧ i.bytes = 8 := info_parts (by kernel_rfl)
  have hc : Tryz.prog.cellsOf 80 = 1 := by kernel_rfl
  have ha : ∀ w, (isAgg 80).run Tryz.prog w = .ok false w := fun w => by kernel_rfl
  rw [run_eql_struct, show (10000 : Nat) = 9998 + 1 + 1 from rfl, run_equalIn_array _ (9998 + 1) _ _ Tryz.underlying81 hi, hc, show List.range 4 = [0, 1, 2, 3] from rfl]
  simp only [Op.eqItems, part, Sem.run_bind, ha, Result.andThen_ok]
  cases q1 <;> cases q2 <;> cases q3 <;> cases q4 <;> simp [eqPtr_run, Result.andThen, part, ha, go_sem]
end Go.Proofs.YtahichjiphjapaaGreatDoor

/-
  Package quad: a node that is kept; a node changed at the end of a way.
-/
namespace Go.Proofs.YtahichjiphjapaaGreatDoor
set_option linter.unusedSimpArgs false
set_option linter.unusedVariables false
open Go.RowKit Go.Sort Go.Lib Go.Shelf

section
variable {w : World} {M : Nat → Prop} {n : Nat} {R : Rw} {rv : Value} {q : Q4}
/-- What kept answers. -/
def IsPt (w : World) (M : Nat → Prop) (n : Nat) (R : Rw) (v : Value) : Prop := ∃ p, v = pV p ∧ PtrV w M n R p
set_option maxHeartbeats 1000000 in
set_option maxRecDepth 100000 in
theorem kept_call (hD : Dig R) (h : NdV w M n R rv q) :
    Calls Tryz.prog 74 #[ndV rv q] w fun e w' => ∃ v', e = .returned v' ∧ IsPt w' (New M w w') (n + 1) R v' ∧ RowKit.Below w.heap.size w w' := by
  have hno := h.no_iff hD
  have HH := Lib.hid h
  obtain ⟨p, cap, rfl, hc, hcm⟩ := h.val
  obtain ⟨q1, q2, q3, q4⟩ := q
  have EQ := fun w => eqNil_run q1 q2 q3 q4 w
  have GQ := fun (op : BinOp) (a b : Operand) (xs ys : Array Value) (w : World) => (run_eqGuard_agg w op 81 a b xs ys (by kernel_rfl) : Sem.run Tryz.prog (eqGuard op 81 a b (.agg xs) (.agg ys)) w = .ok () w)
  generalize hN : (R []).length = N at *
  have HB := Lib.hid (Ba (Below.refl _ w) (.cells #[.slice p N cap, .pointer (aV q1), .pointer (aV q2), .pointer (aV q3), .pointer (aV q4)] 83))
  have HK := Lib.hid (heap_alloc_new w (.cells #[.slice p N cap, .pointer (aV q1), .pointer (aV q2), .pointer (aV q3), .pointer (aV q4)] 83))
  have HS := Lib.hid (show (w.alloc (.cells #[.slice p N cap, .pointer (aV q1), .pointer (aV q2), .pointer (aV q3), .pointer (aV q4)] 83)).heap.size = w.heap.size + 1 by simp)
  dsimp only at hno
  by_cases hR : noR R
  · obtain ⟨e0, rfl, rfl, rfl, rfl⟩ := hno.1 hR
    have HR := Lib.hid hR
    clear hno hR h
    obtain rfl : N = 0 := by rw [← hN, e0]; rfl
    change Calls Tryz.prog 74 #[.agg #[.slice p 0 cap, .pointer none, .pointer none, .pointer none, .pointer none]] w _
    clear hN e0
    have EQ2 : ∀ w, (binOp .eql 81 (.agg #[.pointer none, .pointer none, .pointer none, .pointer none]) (.agg #[.pointer none, .pointer none, .pointer none, .pointer none])).run Tryz.prog w = .ok (.bool true) w := fun w => EQ w
    clear EQ
    go_enter Tryz.func74, Tryz.ntmps74
    go_wp2
    go_ret
    exact ⟨_, rfl, ⟨none, rfl, PtrV.no HR.out⟩, (by repeat (first | with_reducible exact Below.refl _ _ | with_reducible assumption | with_reducible apply Ba | with_reducible apply Bd | with_reducible apply Bn | with_reducible apply Bg | (with_reducible refine Bs ?_ (by first | (simp; done) | (simp; omega)) _) | (with_reducible refine Bt ?_ (by assumption)) | (with_reducible refine Bt ?_ (Gr.below (by assumption)))))⟩
  · have HP := Lib.hid (show IsPt (w.alloc (.cells #[.slice p N cap, .pointer (aV q1), .pointer (aV q2), .pointer (aV q3), .pointer (aV q4)] 83)) (New M w (w.alloc (.cells #[.slice p N cap, .pointer (aV q1), .pointer (aV q2), .pointer (aV q3), .pointer (aV q4)] 83))) (n + 1) R (.pointer (some ⟨w.heap.size, 0, none⟩)) from
      ⟨some w.heap.size, rfl, hR, .inr ⟨Nat.le_refl _, by rw [HS.out]; omega⟩, _, (q1, q2, q3, q4), HK.out, (HH.out.below HB.out).mono fun b e => .inl e⟩)
    clear h
    change Calls Tryz.prog 74 #[.agg #[.slice p N cap, .pointer (aV q1), .pointer (aV q2), .pointer (aV q3), .pointer (aV q4)]] w _
    by_cases hl : N = 0
    · have hf : (decide (q1 = none) && (decide (q2 = none) && (decide (q3 = none) && decide (q4 = none)))) = false := by
        cases c : (decide (q1 = none) && (decide (q2 = none) && (decide (q3 = none) && decide (q4 = none)))) with
        | false => rfl
        | true =>
          simp only [Bool.and_eq_true, decide_eq_true_eq] at c
          exact absurd (hno.2 ⟨List.length_eq_zero_iff.1 (hN.trans hl), c.1, c.2.1, c.2.2.1, c.2.2.2⟩) hR
      rw [hf] at EQ
      subst hl
      clear hno hR hf hN
      go_enter Tryz.func74, Tryz.ntmps74
      go_wp2
      go_ret
      exact ⟨_, rfl, HP.out, HB.out⟩
    · clear hno hR hN
      have hl2 : ¬ (N : Int) = 0 := by omega
      clear EQ
      go_enter Tryz.func74, Tryz.ntmps74
      go_wp2
      go_ret
      exact ⟨_, rfl, HP.out, HB.out⟩
end
end Go.Proofs.YtahichjiphjapaaGreatDoor
