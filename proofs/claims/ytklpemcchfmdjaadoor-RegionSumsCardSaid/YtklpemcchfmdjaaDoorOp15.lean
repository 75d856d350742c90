/-
  Rows of yes and no in memory.
-/
import Derived.Test.YtklpemcchfmdjaaDoorOp14
import Derived.Test.YtklpemcchfmdjaaDoorPb15
namespace Go.Proofs.YtklpemcchfmdjaaDoor
set_option linter.unusedSimpArgs false
set_option linter.unusedVariables false
open Go.RowKit Go.Sort Go.Lib Go.Shelf

def encB (b : Bool) : List Value := [.bool b]
theorem lenB (b : Bool) : (encB b).length = 1 := rfl
theorem encB1 : ∀ x : Bool, encB x = [Value.bool x] := fun _ => rfl
theorem oneB (b : Bool) : ∀ v ∈ encB b, v.oneCell' = true := fun v hv => by simp [encB] at hv; subst hv; rfl
theorem encI1' : ∀ x : Int, encI x = [Value.int .i64 x] := fun _ => rfl
theorem apBo : Ap encB 33 4 1 (.bool false) 1 :=
  ⟨Tryd.underlying33, info_parts (by kernel_rfl), by decide, by decide, by decide, lenB, oneB⟩
theorem atB {w : World} {l : List Bool} {g o : Nat} (h : ∀ j u, (flat encB l)[j]? = some u → w.cell? ⟨g, o + j, none⟩ = some u) {i : Nat} (hi : i < l.length) : w.cell? ⟨g, o + i, none⟩ = some (.bool l[i]!) :=
  sl_cell1 (c := Value.bool) (fun _ => rfl) h hi
abbrev OwnB (w : World) (base : Nat) (v : Value) (l : List Bool) : Prop := w.ownsRow base 4 1 v l.length (flat encB l)
def nots (n : Nat) : List Bool := List.replicate n false
theorem nots_len (n : Nat) : (nots n).length = n := by simp [nots]
theorem nots_get {n i : Nat} (hi : i < n) : (nots n)[i]! = false := by
  unfold nots
  rw [getElem!_pos _ i (by simpa using hi)]; simp
theorem make_bs (n : Nat) (hn : n ≤ 1024) : ∃ Z : Array Value, Z.toList = flat encB (nots n) ∧ ∀ W : World, (Instr.makeSlice 33 (.int .i64 (n : Int)) (.int .i64 (n : Int))).run Tryd.prog W = .ok (.slice (some ⟨W.heap.size, 0, none⟩) n n) (W.alloc (.cells Z 4)) := by
  obtain ⟨i, hi, hz1, hs1, hb1⟩ := apBo.hi
  refine ⟨madeCells #[.bool false] n, ?_, fun W => ?_⟩
  · rw [toList_madeCells_one, flat1 encB1]
    simp [nots]
  · have := run_make (P := Tryd.prog) W 33 4 i (.bool false) apBo.ht hi hz1 .i64 .i64 (n : Int) (n : Int) (by omega) (Int.le_refl _) (by rw [hb1]; omega) (by omega)
    rw [hs1, Int.toNat_natCast, Nat.mul_one] at this
    exact this
theorem made_bs (w W : World) (Z : Array Value) (n : Nat) (hn : n ≤ 1024) (hw : w.heap.size ≤ W.heap.size) (hZ : Z.toList = flat encB (nots n)) : OwnB (W.alloc (.cells Z 4)) w.heap.size (.slice (some ⟨W.heap.size, 0, none⟩) n n) (nots n) := by
  have hs : Z.size = n * 1 := by
    have := congrArg List.length hZ
    rw [flat_len lenB, nots_len] at this
    simpa using this
  have h1 : (W.alloc (.cells Z 4)).ownsRow w.heap.size 4 1 (.slice (some ⟨W.heap.size, 0, none⟩) n n) n Z.toList := World.ownsRow_lit W Z n hw (by unfold maxLen; omega) hs
  rw [hZ] at h1
  unfold OwnB
  rw [nots_len]
  exact h1
/-- A cell is stored in a row of one's own. -/
theorem own_set {w : World} {base g cap : Nat} {l : List Bool} (h : OwnB w base (.slice (some ⟨g, 0, none⟩) l.length cap) l) (j : Nat) (x : Bool) : OwnB (w.setCell ⟨g, j, none⟩ (.bool x)) base (.slice (some ⟨g, 0, none⟩) l.length cap) (l.set j x) := by
  have hst := (h.stored j (.bool x)).1
  rw [flat1_set (c := Value.bool) encB1] at hst
  unfold OwnB
  rw [List.length_set]
  exact hst
end Go.Proofs.YtklpemcchfmdjaaDoor
