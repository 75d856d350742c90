/-
  The reference's rows: spans, boxes with their handles; appends at them.
-/
import Derived.Test.YtbodefigeiaodaaDoorBx11
import Derived.Test.YtbodefigeiaodaaDoorOr11
namespace Go.Proofs.YtbodefigeiaodaaDoor
set_option linter.unusedSimpArgs false
set_option linter.unusedVariables false
open Go.RowKit Go.Sort Go.Lib Go.Shelf

def encBx (b : Bxd) : List Value := [.int .i64 b.1.1, .int .i64 b.1.2, .int .i64 b.2.1, .int .i64 b.2.2.1, .int .i64 b.2.2.2.1, .int .i64 b.2.2.2.2]
theorem lenBx (b : Bxd) : (encBx b).length = 6 := rfl
theorem oneBx (b : Bxd) : ∀ v ∈ encBx b, v.oneCell' = true := fun v hv => by simp [encBx] at hv; rcases hv with rfl | rfl | rfl | rfl | rfl | rfl <;> rfl
def encSp (s : Spn) : List Value := [.int .i64 s.1.1, .int .i64 s.1.2, .int .i64 s.2.1, .int .i64 s.2.2]
theorem lenSp (s : Spn) : (encSp s).length = 4 := rfl
theorem oneSp (s : Spn) : ∀ v ∈ encSp s, v.oneCell' = true := fun v hv => by simp [encSp] at hv; rcases hv with rfl | rfl | rfl | rfl <;> rfl
theorem apB : Ap encBx 59 64 6 (.agg #[.int .i64 0, .int .i64 0, .int .i64 0, .int .i64 0, .int .i64 0, .int .i64 0]) 48 :=
  ⟨Tryd.underlying59, info_parts (by kernel_rfl), by decide, by decide, by decide, lenBx, oneBx⟩
theorem apS : Ap encSp 26 34 4 (.agg #[.int .i64 0, .int .i64 0, .int .i64 0, .int .i64 0]) 32 :=
  ⟨Tryd.underlying26, info_parts (by kernel_rfl), by decide, by decide, by decide, lenSp, oneSp⟩
theorem atBx {w : World} {l : List Bxd} {g o : Nat} (h : ∀ j u, (flat encBx l)[j]? = some u → w.cell? ⟨g, o + j, none⟩ = some u) {i : Nat} (hi : i < l.length) :
    w.cell? ⟨g, o + i * 6, none⟩ = some (.int .i64 l[i]!.1.1) ∧ w.cell? ⟨g, o + i * 6 + 1, none⟩ = some (.int .i64 l[i]!.1.2) ∧ w.cell? ⟨g, o + i * 6 + 2, none⟩ = some (.int .i64 l[i]!.2.1) ∧
    w.cell? ⟨g, o + i * 6 + 3, none⟩ = some (.int .i64 l[i]!.2.2.1) ∧ w.cell? ⟨g, o + i * 6 + 4, none⟩ = some (.int .i64 l[i]!.2.2.2.1) ∧ w.cell? ⟨g, o + i * 6 + 5, none⟩ = some (.int .i64 l[i]!.2.2.2.2) :=
  ⟨sl_at lenBx h hi 0 _ rfl, sl_at lenBx h hi 1 _ rfl, sl_at lenBx h hi 2 _ rfl, sl_at lenBx h hi 3 _ rfl, sl_at lenBx h hi 4 _ rfl, sl_at lenBx h hi 5 _ rfl⟩
theorem atSp {w : World} {l : List Spn} {g o : Nat} (h : ∀ j u, (flat encSp l)[j]? = some u → w.cell? ⟨g, o + j, none⟩ = some u) {i : Nat} (hi : i < l.length) :
    w.cell? ⟨g, o + i * 4, none⟩ = some (.int .i64 l[i]!.1.1) ∧ w.cell? ⟨g, o + i * 4 + 1, none⟩ = some (.int .i64 l[i]!.1.2) ∧ w.cell? ⟨g, o + i * 4 + 2, none⟩ = some (.int .i64 l[i]!.2.1) ∧ w.cell? ⟨g, o + i * 4 + 3, none⟩ = some (.int .i64 l[i]!.2.2) :=
  ⟨sl_at lenSp h hi 0 _ rfl, sl_at lenSp h hi 1 _ rfl, sl_at lenSp h hi 2 _ rfl, sl_at lenSp h hi 3 _ rfl⟩
theorem woB_take {B : List Bxd} {k : Nat} (hk : k < B.length) (h : Hd) : woB (B.take (k + 1)) h = woB (B.take k) h ++ (if B[k]!.1 = h then [] else [B[k]!]) := by
  unfold woB
  rw [List.take_succ_eq_append_getElem hk, List.filter_append, getElem!_pos B k hk]
  congr 1
  by_cases e : B[k].1 = h <;> simp [List.filter_cons, e]
theorem without_take {B : List Spn} {k : Nat} (hk : k < B.length) (h : Hd) : without (B.take (k + 1)) h = without (B.take k) h ++ (if B[k]!.1 = h then [] else [B[k]!]) := by
  unfold without
  rw [List.take_succ_eq_append_getElem hk, List.filter_append, getElem!_pos B k hk]
  congr 1
  by_cases e : B[k].1 = h <;> simp [List.filter_cons, e]
end Go.Proofs.YtbodefigeiaodaaDoor
