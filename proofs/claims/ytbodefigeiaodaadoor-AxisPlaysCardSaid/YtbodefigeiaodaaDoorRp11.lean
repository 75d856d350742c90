/-
  The ends of spans, put one by one at their places; ends of the reference's compared.
-/
import Derived.Test.YtbodefigeiaodaaDoorFb
import Derived.Test.YtbodefigeiaodaaDoorPa11
namespace Go.Proofs.YtbodefigeiaodaaDoor
set_option linter.unusedSimpArgs false
set_option linter.unusedVariables false


/-- One of a span's two ends; the ends when j of them have been put. -/
def eN (s : Spn) (j : Nat) : En := if j = 0 then lo s else hi s
def midE (s : Spn) (E : List En) (j : Nat) : List En := if j = 0 then E else if j = 1 then put ltE (lo s) E else put ltE (hi s) (put ltE (lo s) E)
theorem midE_zero (s : Spn) (E : List En) : midE s E 0 = E := rfl
theorem midE_step (s : Spn) (E : List En) {j : Nat} (hj : j < 2) : midE s E (j + 1) = put ltE (eN s j) (midE s E j) := by
  rcases (show j = 0 ∨ j = 1 by omega) with rfl | rfl <;> rfl
theorem put_len1 {α : Type} [DecidableEq α] {lt : α → α → Bool} (x : α) (l : List α) : (put lt x l).length ≤ l.length + 1 := by
  rw [put_eq]
  split
  · omega
  · rw [List.length_append, List.length_cons, List.length_take, List.length_drop]
    have := headLess_le (lt := lt) x l
    omega
theorem midE_len (s : Spn) (E : List En) (j : Nat) : (midE s E j).length ≤ E.length + 2 := by
  unfold midE
  have h1 := put_len1 (lt := ltE) (lo s) E
  have h2 := put_len1 (lt := ltE) (hi s) (put ltE (lo s) E)
  split
  · omega
  · split <;> omega
theorem endsL_take (L : List Spn) {k : Nat} (hk : k < L.length) : endsL (L.take (k + 1)) = midE L[k]! (endsL (L.take k)) 2 := by
  rw [List.take_succ_eq_append_getElem hk, endsL_snoc, getElem!_pos L k hk]
  rfl
theorem once_take_ne {L : List Spn} (ho : Once L) {k : Nat} (hk : k < L.length) : ∀ t ∈ L.take k, t.1 ≠ L[k]!.1 := by
  intro t ht e
  rw [getElem!_pos L k hk] at e
  have h := List.Sublist.nodup (List.Sublist.map (fun s : Spn => s.1) (List.take_sublist (k + 1) L)) ho
  rw [List.take_succ_eq_append_getElem hk, List.map_append, List.nodup_append] at h
  exact h.2.2 t.1 (List.mem_map.2 ⟨t, ht, rfl⟩) L[k].1 (by simp) e
theorem midE_new {L : List Spn} (ho : Once L) {k : Nat} (hk : k < L.length) {j : Nat} (hj : j < 2) : eN L[k]! j ∉ midE L[k]! (endsL (L.take k)) j := by
  have hne := once_take_ne ho hk
  generalize L[k]! = s at *
  have h0 : ∀ e ∈ endsL (L.take k), e.2.2 ≠ s.1 := fun e he => by
    obtain ⟨t, ht, h⟩ := mem_endsL.1 he
    rcases h with rfl | rfl
    · exact hne t ht
    · exact hne t ht
  rcases (show j = 0 ∨ j = 1 by omega) with rfl | rfl
  · exact fun h => h0 _ h rfl
  · intro h
    rcases (mem_put _ _ _).1 h with e | e
    · exact absurd (congrArg (fun z : En => z.2.1) e) (by simp [eN, Go.Proofs.YtbodefigeiaodaaDoor.hi, lo])
    · exact h0 _ e rfl
theorem midE_put {L : List Spn} (ho : Once L) {k : Nat} (hk : k < L.length) {j : Nat} (hj : j < 2) :
    midE L[k]! (endsL (L.take k)) (j + 1) = (midE L[k]! (endsL (L.take k)) j).take (headLess ltE (eN L[k]! j) (midE L[k]! (endsL (L.take k)) j)) ++ ([eN L[k]! j] ++ (midE L[k]! (endsL (L.take k)) j).drop (headLess ltE (eN L[k]! j) (midE L[k]! (endsL (L.take k)) j))) := by
  rw [midE_step _ _ hj, put_new sto_en _ (midE_new ho hk hj), List.append_assoc]
section
open Go.RowKit Go.Sort Go.Lib Go.Shelf
theorem eqRE_run (x : En) (w : World) : Sem.run Tryd.prog (binOp .eql 54 (aggE x) (aggE x)) w = .ok (.bool true) w := by
  obtain ⟨x1, x2, x3, x4⟩ := x
  have u3 := Tryd.underlying3
  have a3 := Tryd.isAgg3
  have z3 := Tryd.sizeOf3
  have u4 := Tryd.underlying4
  have a4 := Tryd.isAgg4
  have z4 := Tryd.sizeOf4
  have a28 := Tryd.isAgg28
  have z28 := Tryd.sizeOf28
  have hS : Tryd.prog.underlying 54 = some (.struct (Tryd.prog.fieldsOf 54)) := by kernel_rfl
  have hp : Tryd.prog.stoodInHeld 54 = false := by kernel_rfl
  have hS8 : Tryd.prog.underlying 28 = some (.struct (Tryd.prog.fieldsOf 28)) := by kernel_rfl
  have hp8 : Tryd.prog.stoodInHeld 28 = false := by kernel_rfl
  have in8 : ∀ (p1 p2 q1 q2 : Int), (Op.equalIn 9999 28 (.agg #[.int .i64 p1, .int .i64 p2]) (.agg #[.int .i64 q1, .int .i64 q2])).run Tryd.prog w = .ok (decide (p1 = q1) && decide (p2 = q2)) w := fun p1 p2 q1 q2 => by
    rw [show (9999 : Nat) = 9998 + 1 from rfl, run_equalIn_agg w 9998 28 _ _ hS8 hp8]
    simp only [Program.fieldsOf, Tryd.underlying28]
    go_simp
    by_cases h1 : p1 = q1 <;> by_cases h2 : p2 = q2 <;> simp [h1, h2]
  simp only [aggE]
  rw [run_eql_struct, show (10000 : Nat) = 9999 + 1 from rfl, run_equalIn_agg w 9999 54 _ _ hS hp]
  clear hS8 hp8 hS hp
  simp only [Program.fieldsOf, Tryd.underlying54]
  cases x2 <;> go_simp
theorem neRE_run (x : En) (w : World) : Sem.run Tryd.prog (binOp .neq 54 (aggE x) (aggE x)) w = .ok (.bool false) w := by
  have h := eqRE_run x w
  unfold aggE at *
  rw [run_eql_struct] at h
  rw [run_neq_struct]
  cases hr : (Op.equalIn 10000 54 (.agg #[.int .i64 x.1, .bool x.2.1, .int .i64 x.2.2.1, .int .i64 x.2.2.2]) (.agg #[.int .i64 x.1, .bool x.2.1, .int .i64 x.2.2.1, .int .i64 x.2.2.2])).run Tryd.prog w with
  | ok b w' =>
    rw [hr] at h
    simp only [Result.andThen_ok, Result.ok.injEq, Value.bool.injEq] at h ⊢
    obtain ⟨rfl, rfl⟩ := h
    exact ⟨rfl, rfl⟩
  | halt x w' => rw [hr] at h; simp [Result.andThen] at h
theorem gdRE_run (op : BinOp) (a b : Operand) (xs ys : Array Value) (w : World) : Sem.run Tryd.prog (eqGuard op 54 a b (.agg xs) (.agg ys)) w = .ok () w :=
  run_eqGuard_agg w op 54 a b xs ys (by kernel_rfl)
end
end Go.Proofs.YtbodefigeiaodaaDoor
