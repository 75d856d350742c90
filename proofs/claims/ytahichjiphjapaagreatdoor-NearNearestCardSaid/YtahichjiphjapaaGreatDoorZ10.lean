import Derived.Test.YtahichjiphjapaaGreatDoorZ39
import Derived.Test.YtahichjiphjapaaGreatDoorZ6
import Derived.Test.YtahichjiphjapaaGreatDoorZ28

/-
  Package quad: which boxes meet one.
-/
namespace Go.Proofs.YtahichjiphjapaaGreatDoor
set_option linter.unusedSimpArgs false
set_option linter.unusedVariables false
open Go.RowKit Go.Sort Go.Lib Go.Shelf

/-- Cells a walk for a box goes into. -/
def entQ (q : Bx4) (c : Cl) : Bool := rightC c && meets4 (looseC c) q
theorem ok_loose {c : Cl} (h : rightC c = true) : okR (looseC c) = true := by
  obtain ⟨c1, c2, c3⟩ := c
  unfold rightC at h
  simp only [Bool.and_eq_true, decide_eq_true_eq] at h
  obtain ⟨d, rfl⟩ : ∃ d : Nat, c1 = (d : Int) := ⟨c1.toNat, by omega⟩
  rw [okR_iff]
  unfold looseC
  dsimp only
  simp only [Int.toNat_natCast] at h ⊢
  have hd : d ≤ 8 := by omega
  obtain ⟨s1, s2, s3, s4, s5⟩ := side_pw hd
  have he := side_even hd
  have m1 : 0 ≤ c2 * sideI d ∧ c2 * sideI d + sideI d ≤ 4194304 := by
    have h2 := Int.mul_le_mul_of_nonneg_right (show c2 + 1 ≤ pwI d by omega) (show 0 ≤ sideI d by omega)
    have h3 := Int.mul_nonneg (show 0 ≤ c2 by omega) (show 0 ≤ sideI d by omega)
    rw [Int.mul_comm (pwI d), Int.add_mul] at h2
    omega
  have m2 : 0 ≤ c3 * sideI d ∧ c3 * sideI d + sideI d ≤ 4194304 := by
    have h2 := Int.mul_le_mul_of_nonneg_right (show c3 + 1 ≤ pwI d by omega) (show 0 ≤ sideI d by omega)
    have h3 := Int.mul_nonneg (show 0 ≤ c3 by omega) (show 0 ≤ sideI d by omega)
    rw [Int.mul_comm (pwI d), Int.add_mul] at h2
    omega
  omega
end Go.Proofs.YtahichjiphjapaaGreatDoor

/-
  Package quad: a list that a walk's functions collect.
-/
namespace Go.Proofs.YtahichjiphjapaaGreatDoor
set_option linter.unusedSimpArgs false
set_option linter.unusedVariables false
open Go.RowKit Go.Sort Go.Lib Go.Shelf

section
variable {α : Type} {enc : α → List Value} {et k st lv : Nat} {l : List α} {x : α} {Y : Nat → Prop} {W Wm w1 : World} {v v' : Value}
/-- A variable holds a row of the functions' own. -/
def LV (enc : α → List Value) (et k st lv : Nat) (l : List α) (Y : Nat → Prop) (W : World) : Prop :=
  ∃ v, W.heap[lv]? = some (.cells #[v] st (0, 0)) ∧ W.ownsRow (lv + 1) et k v l.length (flat enc l) ∧ (∀ b, Y b ↔ (b = lv ∨ v.ownBlock = some b)) ∧ lv < W.heap.size
theorem LV.below (h : LV enc et k st lv l Y W) (hb : RowKit.Below W.heap.size W w1) : LV enc et k st lv l Y w1 := by
  obtain ⟨v, h1, h2, h3, h4⟩ := h
  exact ⟨v, blk_below h1 hb, row_below h2 hb, h3, Nat.lt_of_lt_of_le h4 hb.size⟩
theorem LV.new (w : World) : LV (α := α) enc et k st w.heap.size [] (fun b => b = w.heap.size) (w.alloc (.cells #[.slice none 0 0] st)) :=
  ⟨_, heap_alloc_new w _, World.ownsRow_nil _ _ _ _, fun b => ⟨fun e => .inl e, fun e => e.elim id fun e => by simp [Value.ownBlock] at e⟩, by simp⟩
/-- One more is appended. -/
theorem LV.app (h1 : W.heap[lv]? = some (.cells #[v] st (0, 0))) (h2 : W.ownsRow (lv + 1) et k v l.length (flat enc l)) (h3 : ∀ b, Y b ↔ (b = lv ∨ v.ownBlock = some b)) (hb : RowKit.Below W.heap.size W Wm)
    (hown : w1.ownsRow (lv + 1) et k v' (l ++ [x]).length (flat enc (l ++ [x]))) (hg : Wm.grownBy w1 v.ownBlock) (hor : v'.ownBlock = v.ownBlock ∨ v'.ownBlock = some Wm.heap.size) :
    ∃ Y', LV enc et k st lv (l ++ [x]) Y' (w1.setCell ⟨lv, 0, none⟩ v') ∧ Tch Y W (w1.setCell ⟨lv, 0, none⟩ v') ∧ ∀ b, Y' b → (Y b ∨ W.heap.size ≤ b) ∧ b < (w1.setCell ⟨lv, 0, none⟩ v').heap.size := by
  have hlv : lv < W.heap.size := (Array.getElem?_eq_some_iff.1 h1).1
  have hne : some lv ≠ v.ownBlock := fun e => by have := row_base0 h2 e.symm; omega
  have hne' : v'.ownBlock ≠ some lv := fun e => by have := row_base0 hown e; omega
  have k1 : w1.heap[lv]? = some (.cells #[v] st (0, 0)) := (hg.block lv (Nat.lt_of_lt_of_le hlv hb.size) hne).trans (blk_below h1 hb)
  have k2 : (w1.setCell ⟨lv, 0, none⟩ v').heap[lv]? = some (.cells #[v'] st (0, 0)) := heap_setCell_same w1 lv 0 _ st v' k1
  have ho2 : (w1.setCell ⟨lv, 0, none⟩ v').ownsRow (lv + 1) et k v' (l ++ [x]).length (flat enc (l ++ [x])) := row_keep hown fun g hg' => heap_setCell_other w1 ⟨lv, 0, none⟩ g v' (fun e => hne' (by rw [← show g = lv from e]; exact hg'))
  have hT : Tch Y W (w1.setCell ⟨lv, 0, none⟩ v') := by
    refine ((Tch.of hb : Tch Y W Wm).more (⟨hg.os, hg.tape, hg.output, hg.size, fun j hj hn => hg.block j hj (fun e => hn ((h3 j).2 (.inr e.symm)))⟩ : Tch Y Wm w1)).more (Tch.set w1 (M := Y) (p := ⟨lv, 0, none⟩) ((h3 lv).2 (.inl rfl)) v')
  refine ⟨fun b => b = lv ∨ v'.ownBlock = some b, ⟨v', k2, ho2, fun b => Iff.rfl, (Array.getElem?_eq_some_iff.1 k2).1⟩, hT, fun b e => ?_⟩
  rcases e with e | e
  · subst e
    exact ⟨.inl ((h3 _).2 (.inl rfl)), (Array.getElem?_eq_some_iff.1 k2).1⟩
  · refine ⟨?_, row_lt ho2 e⟩
    rcases hor with c | c
    · exact .inl ((h3 b).2 (.inr (c ▸ e)))
    · rw [c] at e
      cases e
      exact .inr hb.size
end
/-- The handles of the boxes that meet one, so far. -/
def metL (q : Bx4) (s : List Ev) : List Hd := ((tellL s).filter fun b => meets4 b.2 q).map (·.1)
theorem metL_ask (q : Bx4) (s : List Ev) (c : Cl) : metL q (s ++ [.ask c]) = metL q s := by unfold metL; rw [tellL_ask]
theorem metL_tell (q : Bx4) (s : List Ev) (b : Bxd) : metL q (s ++ [.tell b]) = metL q s ++ (if meets4 b.2 q = true then [b.1] else []) := by
  unfold metL
  rw [tellL_tell, List.filter_append, List.map_append]
  congr 1
  by_cases h : meets4 b.2 q = true <;> simp [h]
/-- What holds within Meeting's walk. -/
def IMt (lv bq : Nat) (q : Bx4) : Inv := fun s Y W => LV encH 42 2 30 lv (metL q s) Y W ∧ W.heap[bq]? = some (.cells #[.int .i64 q.1, .int .i64 q.2.1, .int .i64 q.2.2.1, .int .i64 q.2.2.2] 45 (0, 0)) ∧ bq < lv
theorem imt_stab (lv bq : Nat) (q : Bx4) : Stab (IMt lv bq q) := fun s Y W W' ⟨h1, h2, h3⟩ hb => ⟨h1.below hb, blk_below h2 hb, h3⟩
end Go.Proofs.YtahichjiphjapaaGreatDoor
