/-
  Of no program: boxes put one after another; what is left when X and Y are changed.
-/
import Derived.Test.YtbodefigeiaodaaDoorPb11
import Derived.Test.YtbodefigeiaodaaDoorPw11
namespace Go.Proofs.YtbodefigeiaodaaDoor
set_option linter.unusedSimpArgs false
set_option linter.unusedVariables false

def flipB (b : Bx4) : Bx4 := (b.2.1, b.1, b.2.2.2, b.2.2.1)
/-- What a sweep holds when the first i boxes, turned by f, have been put. -/
def swT (ok : Bx4 → Bool) (f : Bx4 → Bx4) (l : List Bx4) : Nat → List Bxd
  | 0 => []
  | i + 1 => if ok (f l[i]!) then woB (swT ok f l i) ((i : Int), 1) ++ [(((i : Int), 1), f l[i]!)] else swT ok f l i
theorem swT_len (ok : Bx4 → Bool) (f : Bx4 → Bx4) (l : List Bx4) : ∀ i, (swT ok f l i).length ≤ i
  | 0 => Nat.le_refl _
  | i + 1 => by
    have ih := swT_len ok f l i
    unfold swT
    split
    · have : (woB (swT ok f l i) ((i : Int), 1)).length ≤ (swT ok f l i).length := List.length_filter_le _ _
      simp
      omega
    · omega
def turnB (b : Bxd) : Bxd := (b.1, flipB b.2)
theorem woB_turn (B : List Bxd) (h : Hd) : woB (B.map turnB) h = (woB B h).map turnB := by
  unfold woB
  rw [List.filter_map]
  rfl
theorem swT_flip (ok : Bx4 → Bool) (hok : ∀ b, ok (flipB b) = ok b) (l : List Bx4) : ∀ i, swT ok flipB l i = (swT ok id l i).map turnB
  | 0 => rfl
  | i + 1 => by
    have ih := swT_flip ok hok l i
    unfold swT
    rw [hok, ih]
    simp only [id]
    split
    · rw [List.map_append, woB_turn]
      rfl
    · rfl
theorem meetsX_turn (a b : Bxd) : meetsX (turnB a) (turnB b) = meetsX a b := by
  unfold meetsX turnB flipB xsp ysp
  rw [Bool.and_comm]
theorem allP_map {β : Type} (f : β → β → Bool) (hd : β → Hd) (g : β → β) (hf : ∀ a b, f (g a) (g b) = f a b) (hh : ∀ a, hd (g a) = hd a) : ∀ (r pre : List β), allP f hd (pre.map g) (r.map g) = allP f hd pre r
  | [], _ => rfl
  | a :: r, pre => by
    have ih := allP_map f hd g hf hh r (pre ++ [a])
    simp only [List.map_cons, allP]
    rw [List.map_append] at ih
    rw [show pre.map g ++ [g a] = pre.map g ++ [a].map g from rfl, ih]
    congr 1
    unfold rowP
    rw [List.filterMap_map]
    congr 1
    funext b
    simp [hf, hh]
theorem pairsB_turn (B : List Bxd) : pairsB (B.map turnB) = pairsB B := by
  unfold pairsB allX
  have := allP_map meetsX (fun b => b.1) turnB meetsX_turn (fun _ => rfl) B []
  simp only [List.map_nil] at this
  rw [this]
end Go.Proofs.YtbodefigeiaodaaDoor
