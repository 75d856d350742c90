import Derived.Test.YtahichjiphjapaaGreatDoorZ0
import Derived.Test.YtahichjiphjapaaGreatDoorZ2

/-
  The reference's rows of boxes; DropBox, PutBox, Gone (of stage 11).
-/
namespace Go.Proofs.YtahichjiphjapaaGreatDoor
set_option linter.unusedSimpArgs false
set_option linter.unusedVariables false
open Go.RowKit Go.Sort Go.Lib Go.Shelf

def encBx (b : Bxd) : List Value := [.int .i64 b.1.1, .int .i64 b.1.2, .int .i64 b.2.1, .int .i64 b.2.2.1, .int .i64 b.2.2.2.1, .int .i64 b.2.2.2.2]
theorem lenBx (b : Bxd) : (encBx b).length = 6 := rfl
theorem oneBx (b : Bxd) : ∀ v ∈ encBx b, v.oneCell' = true := fun v hv => by simp [encBx] at hv; rcases hv with rfl | rfl | rfl | rfl | rfl | rfl <;> rfl
theorem apB : Ap encBx 27 47 6 (.agg #[.int .i64 0, .int .i64 0, .int .i64 0, .int .i64 0, .int .i64 0, .int .i64 0]) 48 :=
  ⟨Tryz.underlying27, info_parts (by kernel_rfl), by decide, by decide, by decide, lenBx, oneBx⟩
theorem atBx {w : World} {l : List Bxd} {g o : Nat} (h : ∀ j u, (flat encBx l)[j]? = some u → w.cell? ⟨g, o + j, none⟩ = some u) {i : Nat} (hi : i < l.length) :
    w.cell? ⟨g, o + i * 6, none⟩ = some (.int .i64 l[i]!.1.1) ∧ w.cell? ⟨g, o + i * 6 + 1, none⟩ = some (.int .i64 l[i]!.1.2) ∧ w.cell? ⟨g, o + i * 6 + 2, none⟩ = some (.int .i64 l[i]!.2.1) ∧
    w.cell? ⟨g, o + i * 6 + 3, none⟩ = some (.int .i64 l[i]!.2.2.1) ∧ w.cell? ⟨g, o + i * 6 + 4, none⟩ = some (.int .i64 l[i]!.2.2.2.1) ∧ w.cell? ⟨g, o + i * 6 + 5, none⟩ = some (.int .i64 l[i]!.2.2.2.2) :=
  ⟨sl_at lenBx h hi 0 _ rfl, sl_at lenBx h hi 1 _ rfl, sl_at lenBx h hi 2 _ rfl, sl_at lenBx h hi 3 _ rfl, sl_at lenBx h hi 4 _ rfl, sl_at lenBx h hi 5 _ rfl⟩
theorem woB_take {B : List Bxd} {k : Nat} (hk : k < B.length) (h : Hd) : woB (B.take (k + 1)) h = woB (B.take k) h ++ (if B[k]!.1 = h then [] else [B[k]!]) := by
  unfold woB
  rw [List.take_succ_eq_append_getElem hk, List.filter_append, getElem!_pos B k hk]
  congr 1
  by_cases e : B[k].1 = h <;> simp [List.filter_cons, e]
theorem cells4 {w : World} {b : Nat} {t : TypeId} {a1 a2 a3 a4 : Value} (h : w.heap[b]? = some (.cells #[a1, a2, a3, a4] t (0, 0))) :
    w.cell? ⟨b, 0, none⟩ = some a1 ∧ w.cell? ⟨b, 1, none⟩ = some a2 ∧ w.cell? ⟨b, 2, none⟩ = some a3 ∧ w.cell? ⟨b, 3, none⟩ = some a4 := by
  refine ⟨?_, ?_, ?_, ?_⟩ <;> simp [World.cell?, h]
theorem cells6 {w : World} {b : Nat} {t : TypeId} {a1 a2 a3 a4 a5 a6 : Value} (h : w.heap[b]? = some (.cells #[a1, a2, a3, a4, a5, a6] t (0, 0))) :
    w.cell? ⟨b, 0, none⟩ = some a1 ∧ w.cell? ⟨b, 1, none⟩ = some a2 ∧ w.cell? ⟨b, 2, none⟩ = some a3 ∧ w.cell? ⟨b, 3, none⟩ = some a4 ∧ w.cell? ⟨b, 4, none⟩ = some a5 ∧ w.cell? ⟨b, 5, none⟩ = some a6 := by
  refine ⟨?_, ?_, ?_, ?_, ?_, ?_⟩ <;> simp [World.cell?, h]
end Go.Proofs.YtahichjiphjapaaGreatDoor
