/-
  Elements of one cell: numbers, bytes, strings; what Take leaves of a list.
-/
import Derived.Test.YtfoagdnbegpjeaaDoorRow
namespace Go.Proofs.YtfoagdnbegpjeaaDoor
set_option linter.unusedSimpArgs false
set_option linter.unusedVariables false
open Go.RowKit Go.Sort Go.Lib Go.Shelf

def encB (x : Int) : List Value := [.int .u8 x]
theorem lenB (x : Int) : (encB x).length = 1 := rfl
theorem oneB (x : Int) : ∀ v ∈ encB x, v.oneCell' = true := fun v hv => by simp [encB] at hv; subst hv; rfl
def encT (x : ByteArray) : List Value := [.string x]
theorem lenT (x : ByteArray) : (encT x).length = 1 := rfl
theorem oneT (x : ByteArray) : ∀ v ∈ encT x, v.oneCell' = true := fun v hv => by simp [encT] at hv; subst hv; rfl
theorem apB : Ap encB 62 5 1 (.int .u8 0) 1 :=
  ⟨Tryd.underlying62, info_parts (by kernel_rfl), by decide, by decide, by decide, lenB, oneB⟩
theorem apT : Ap encT 49 9 1 (.string ByteArray.empty) 16 :=
  ⟨Tryd.underlying49, info_parts (by kernel_rfl), by decide, by decide, by decide, lenT, oneT⟩
theorem cI (x : Int) : encI x = [Value.int .i64 x] := rfl
theorem cB (x : Int) : encB x = [Value.int .u8 x] := rfl
theorem cT (x : ByteArray) : encT x = [Value.string x] := rfl

/-- What Take of place n leaves: the last thing takes its place. -/
def takeC {α : Type} [Inhabited α] (L : List α) (n : Nat) : List α := (L.set n L[L.length - 1]!).take (L.length - 1)
theorem takeC_len {α : Type} [Inhabited α] (L : List α) (n : Nat) : (takeC L n).length = L.length - 1 := by simp [takeC]
theorem takeC_last {α : Type} [Inhabited α] (L : List α) : takeC L (L.length - 1) = L.take (L.length - 1) := by
  unfold takeC
  rw [List.take_set_of_le (Nat.le_refl _)]
theorem takeC_eq {α : Type} [Inhabited α] (L : List α) (n q : Nat) (x : α) (hq : L.length = q + 1) : ((L.set n L[q]!).set q x).take q = takeC L n := by
  unfold takeC
  rw [hq, Nat.add_sub_cancel, List.take_set_of_le (Nat.le_refl _)]
theorem takeC_get {α : Type} [Inhabited α] (L : List α) (n k : Nat) (hk : k < L.length - 1) : (takeC L n)[k]! = if k = n then L[L.length - 1]! else L[k]! := by
  unfold takeC
  rw [getElem!_pos _ _ (by simp; omega), List.getElem_take, List.getElem_set]
  by_cases h : n = k
  · rw [if_pos h, if_pos h.symm]
  · rw [if_neg h, if_neg (fun e => h e.symm), getElem!_pos L k (by omega)]
end Go.Proofs.YtfoagdnbegpjeaaDoor
