/-
  What only reads: comparisons of lists (the reference's Same, SamePairs, Has; SameInts, KeptInts), PairLess, order.Pair.
-/
import Derived.Test.YtdpcdfjgpechbaaFa
import Derived.Laws.StructEq
import Derived.Shelf.SlSortCmp.QuietGrown
import Derived.Deep.LoopGhost
namespace Go.Proofs.Ytdpcdfjgpechbaa
set_option linter.unusedSimpArgs false
set_option linter.unusedVariables false
open Go.RowKit Go.Sort Go.Lib Go.Shelf

theorem eqH_run (x1 x2 y1 y2 : Int) (w : World) : Sem.run Try.prog (binOp .eql 28 (.agg #[.int .i64 x1, .int .i64 x2]) (.agg #[.int .i64 y1, .int .i64 y2])) w = .ok (.bool (decide ((x1, x2) = (y1, y2)))) w := by
  have u3 := Try.underlying3
  have a3 := Try.isAgg3
  have z3 := Try.sizeOf3
  have hS : Try.prog.underlying 28 = some (.struct (Try.prog.fieldsOf 28)) := by kernel_rfl
  have hp : Try.prog.stoodInHeld 28 = false := by kernel_rfl
  rw [run_eql_struct, show (10000 : Nat) = 9999 + 1 from rfl, run_equalIn_agg w 9999 28 _ _ hS hp]
  simp only [Program.fieldsOf, Try.underlying28]
  go_simp
  by_cases h1 : x1 = y1 <;> by_cases h2 : x2 = y2 <;> simp [h1, h2]
theorem neH_run (x1 x2 y1 y2 : Int) (w : World) : Sem.run Try.prog (binOp .neq 28 (.agg #[.int .i64 x1, .int .i64 x2]) (.agg #[.int .i64 y1, .int .i64 y2])) w = .ok (.bool (!decide ((x1, x2) = (y1, y2)))) w := by
  have h := eqH_run x1 x2 y1 y2 w
  rw [run_eql_struct] at h
  rw [run_neq_struct]
  cases hr : (Op.equalIn 10000 28 (.agg #[.int .i64 x1, .int .i64 x2]) (.agg #[.int .i64 y1, .int .i64 y2])).run Try.prog w with
  | ok b w' =>
    rw [hr] at h
    simp only [Result.andThen_ok, Result.ok.injEq, Value.bool.injEq] at h ⊢
    obtain ⟨rfl, rfl⟩ := h
    exact ⟨rfl, rfl⟩
  | halt x w' => rw [hr] at h; simp [Result.andThen] at h
theorem gdH_run (op : BinOp) (a b : Operand) (xs ys : Array Value) (w : World) : Sem.run Try.prog (eqGuard op 28 a b (.agg xs) (.agg ys)) w = .ok () w :=
  run_eqGuard_agg w op 28 a b xs ys (by kernel_rfl)

theorem eqP_run (x y : Pr) (w : World) : Sem.run Try.prog (binOp .eql 31 (.agg (encP x).toArray) (.agg (encP y).toArray)) w = .ok (.bool (decide (x = y))) w := by
  obtain ⟨⟨x1, x2⟩, x3, x4⟩ := x
  obtain ⟨⟨y1, y2⟩, y3, y4⟩ := y
  have u3 := Try.underlying3
  have a3 := Try.isAgg3
  have z3 := Try.sizeOf3
  have a28 := Try.isAgg28
  have z28 := Try.sizeOf28
  have hS : Try.prog.underlying 31 = some (.struct (Try.prog.fieldsOf 31)) := by kernel_rfl
  have hp : Try.prog.stoodInHeld 31 = false := by kernel_rfl
  have hS8 : Try.prog.underlying 28 = some (.struct (Try.prog.fieldsOf 28)) := by kernel_rfl
  have hp8 : Try.prog.stoodInHeld 28 = false := by kernel_rfl
  have in8 : ∀ (p1 p2 q1 q2 : Int), (Op.equalIn 9999 28 (.agg #[.int .i64 p1, .int .i64 p2]) (.agg #[.int .i64 q1, .int .i64 q2])).run Try.prog w = .ok (decide (p1 = q1) && decide (p2 = q2)) w := fun p1 p2 q1 q2 => by
    rw [show (9999 : Nat) = 9998 + 1 from rfl, run_equalIn_agg w 9998 28 _ _ hS8 hp8]
    simp only [Program.fieldsOf, Try.underlying28]
    go_simp
    by_cases h1 : p1 = q1 <;> by_cases h2 : p2 = q2 <;> simp [h1, h2]
  simp only [encP]
  rw [run_eql_struct, show (10000 : Nat) = 9999 + 1 from rfl, run_equalIn_agg w 9999 31 _ _ hS hp]
  clear hS8 hp8 hS hp
  simp only [Program.fieldsOf, Try.underlying31]
  go_simp
  by_cases h1 : x1 = y1 <;> by_cases h2 : x2 = y2 <;> by_cases h3 : x3 = y3 <;> by_cases h4 : x4 = y4 <;> simp [h1, h2, h3, h4]
theorem neP_run (x y : Pr) (w : World) : Sem.run Try.prog (binOp .neq 31 (.agg (encP x).toArray) (.agg (encP y).toArray)) w = .ok (.bool (!decide (x = y))) w := by
  have h := eqP_run x y w
  rw [run_eql_struct] at h
  rw [run_neq_struct]
  cases hr : (Op.equalIn 10000 31 (.agg (encP x).toArray) (.agg (encP y).toArray)).run Try.prog w with
  | ok b w' =>
    rw [hr] at h
    simp only [Result.andThen_ok, Result.ok.injEq, Value.bool.injEq] at h ⊢
    obtain ⟨rfl, rfl⟩ := h
    exact ⟨rfl, rfl⟩
  | halt x w' => rw [hr] at h; simp [Result.andThen] at h
theorem gdP_run (op : BinOp) (a b : Operand) (xs ys : Array Value) (w : World) : Sem.run Try.prog (eqGuard op 31 a b (.agg xs) (.agg ys)) w = .ok () w :=
  run_eqGuard_agg w op 31 a b xs ys (by kernel_rfl)

theorem take_succ_eq {α : Type} [Inhabited α] [DecidableEq α] (a b : List α) (k : Nat) (hl : a.length = b.length) (hk : k < a.length) (h : a.take k = b.take k) : a.take (k + 1) = b.take (k + 1) ↔ a[k]! = b[k]! := by
  have ea : a.take (k + 1) = a.take k ++ [a[k]] := List.take_succ_eq_append_getElem hk
  have eb : b.take (k + 1) = b.take k ++ [b[k]'(by omega)] := List.take_succ_eq_append_getElem (by omega)
  rw [ea, eb, h, getElem!_pos a k hk, getElem!_pos b k (by omega), List.append_right_inj]
  simp

set_option maxHeartbeats 1000000 in
/-- The reference's Same: two lists of handles. -/
theorem same_call (la lb : List Hd) (va vb : Value) (w : World) (ha : Sl encH w va la) (hb : Sl encH w vb lb) : Calls Try.prog 14 #[va, vb] w fun e w' => e = .returned (.bool (decide (la = lb))) ∧ Gr w w' := by
  obtain ⟨pa, ca, rfl, ha1, ha2, ha⟩ := ha
  obtain ⟨pb, cb, rfl, hb1, hb2, hb⟩ := hb
  have eq1 := eqH_run
  have ne1 := neH_run
  have gd1 := gdH_run
  by_cases hl : la.length = lb.length
  · have hbig : la.length ≤ 9223372036854775807 := by unfold maxLen at ha2; omega
    have HA := Lib.hid ha
    have HB := Lib.hid hb
    clear ha hb ha2 hb2
    go_enter Try.func14, Try.ntmps14
    rw [← hl]
    go_wp2
    go_loopw [13] (fun i wr => ∃ k : Nat, k ≤ la.length ∧ i = .int .i64 k ∧ Gr w wr ∧ la.take k = lb.take k) (fun i _ => la.length - (intOf i).toNat)
    case atStart => exact ⟨0, Nat.zero_le _, rfl, (by repeat (first | with_reducible exact Gr.refl _ | with_reducible assumption | with_reducible apply Gr.alloc | with_reducible apply Gr.drewN | with_reducible apply Gr.drew | with_reducible apply Gr.grow | (with_reducible refine Gr.trans ?_ (by assumption)))), by simp⟩
    case round =>
      obtain ⟨k, hk, rfl, hg, ht⟩ := hrel
      by_cases hkn : k < la.length
      · obtain ⟨g, o, rfl, hg1, hg2⟩ := HA.out (by omega)
        obtain ⟨g', o', rfl, hg3, hg4⟩ := HB.out (by omega)
        obtain ⟨c1, c2⟩ := atH hg2 hkn
        obtain ⟨d1, d2⟩ := atH hg4 (show k < lb.length by omega)
        replace c1 := Bc hg.below hg1 c1
        replace c2 := Bc hg.below hg1 c2
        replace d1 := Bc hg.below hg3 d1
        replace d2 := Bc hg.below hg3 d2
        have hstep := Lib.hid (take_succ_eq la lb k hl hkn ht)
        have HT := Lib.hid ht
        clear ht hg2 hg4
        generalize hx : la[k]! = x at *
        generalize hy : lb[k]! = y at *
        obtain ⟨x1, x2⟩ := x
        obtain ⟨y1, y2⟩ := y
        dsimp only at c1 c2 d1 d2
        by_cases hxy : ((x1, x2) : Hd) = (y1, y2)
        · have e : decide (((x1, x2) : Hd) = (y1, y2)) = true := decide_eq_true hxy
          go_wp2_with fail
          go_region
          go_wp2
          go_roundw
          case measure => simp [intOf]; omega
          case rel => exact ⟨k + 1, by omega, by go_num, (by repeat (first | with_reducible exact Gr.refl _ | with_reducible assumption | with_reducible apply Gr.alloc | with_reducible apply Gr.drewN | with_reducible apply Gr.drew | with_reducible apply Gr.grow | (with_reducible refine Gr.trans ?_ (by assumption)))), hstep.out.2 hxy⟩
        · have e : decide (((x1, x2) : Hd) = (y1, y2)) = false := decide_eq_false hxy
          have hne : decide (la = lb) = false := decide_eq_false fun h => hxy (hstep.out.1 (by rw [h]))
          go_wp2_with fail
          go_region
          go_wp2
          go_ret
          exact ⟨by rw [hne]; rfl, (by repeat (first | with_reducible exact Gr.refl _ | with_reducible assumption | with_reducible apply Gr.alloc | with_reducible apply Gr.drewN | with_reducible apply Gr.drew | with_reducible apply Gr.grow | (with_reducible refine Gr.trans ?_ (by assumption))))⟩
      · have hkn' : k = la.length := by omega
        have he : la = lb := by
          have := ht
          rwa [hkn', List.take_length, hl, List.take_length] at this
        go_wp2
        go_ret
        exact ⟨by rw [decide_eq_true he]; rfl, (by repeat (first | with_reducible exact Gr.refl _ | with_reducible assumption | with_reducible apply Gr.alloc | with_reducible apply Gr.drewN | with_reducible apply Gr.drew | with_reducible apply Gr.grow | (with_reducible refine Gr.trans ?_ (by assumption))))⟩
  · have hne : decide (la = lb) = false := decide_eq_false fun h => hl (by rw [h])
    have hz : ((la.length : Int) == (lb.length : Int)) = false := by simp; omega
    clear ha hb
    go_enter Try.func14, Try.ntmps14
    go_wp2
    go_ret
    exact ⟨by rw [hne]; rfl, (by repeat (first | with_reducible exact Gr.refl _ | with_reducible assumption | with_reducible apply Gr.alloc | with_reducible apply Gr.drewN | with_reducible apply Gr.drew | with_reducible apply Gr.grow | (with_reducible refine Gr.trans ?_ (by assumption))))⟩
end Go.Proofs.Ytdpcdfjgpechbaa
