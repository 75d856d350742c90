import Derived.Test.YtahichjiphjapaaGreatDoorZ9
import Derived.Test.YtahichjiphjapaaGreatDoorZ37
import Derived.Test.YtahichjiphjapaaGreatDoorZ27
import Derived.Test.YtahichjiphjapaaGreatDoorZ5

/-
  Package quad: a new tree, how many boxes, a handle's box.
-/
namespace Go.Proofs.YtahichjiphjapaaGreatDoor
set_option linter.unusedSimpArgs false
set_option linter.unusedVariables false
open Go.RowKit Go.Sort Go.Lib Go.Shelf

theorem TrAt.new (w w' : World) (hw : w' = (w.alloc (.map #[] 0)).alloc (.cells #[.map (some w.heap.size), .slice none 0 0, .pointer none, .pointer none, .pointer none, .pointer none] 85)) : TrAt w' (Fresh w w') (w.heap.size + 1) [] ∧ RowKit.Below w.heap.size w w' := by
  subst hw
  have m1 : MapX (w.alloc (.map #[] 0)) w.heap.size 0 (fun _ => none) := MapG.made w
  have h3 := heap_alloc_new (w.alloc (.map #[] 0)) (.cells #[.map (some w.heap.size), .slice none 0 0, .pointer none, .pointer none, .pointer none, .pointer none] 85)
  rw [show (w.alloc (.map #[] 0)).heap.size = w.heap.size + 1 by simp] at h3
  refine ⟨⟨w.heap.size, fun _ => [], .slice none 0 0, (none, none, none, none), ?_⟩, Ba (Ba (Below.refl _ w) _) _⟩
  exact { inT := .inr ⟨by omega, by simp⟩, inM := .inr ⟨by omega, by simp; omega⟩, ne := by omega, blk := h3, map := (m1.below (Ba (Below.refl _ _) _)).congr (fun q => rfl), nd := nd_none 8, rows := rows_none, ok := fun y hy => (by cases hy), once := List.nodup_nil, hds := fun y hy => (by cases hy) }
set_option maxHeartbeats 1000000 in
set_option maxRecDepth 100000 in
theorem newT_call (w : World) : Calls Tryz.prog 24 #[] w fun e w' => ∃ pt, e = .returned (.pointer (some ⟨pt, 0, none⟩)) ∧ TrAt w' (Fresh w w') pt [] ∧ RowKit.Below w.heap.size w w' := by
  have X := Lib.hid (TrAt.new w _ rfl)
  have hmm := @run_makeMap Tryz.prog
  go_enter Tryz.func24, Tryz.ntmps24
  go_wp2
  go_ret
  exact ⟨_, rfl, X.out.1, X.out.2⟩
theorem set5 {w : World} {p : Nat} {t : TypeId} {m a1 a2 a3 a4 a5 b1 b2 b3 b4 b5 : Value} (h : w.heap[p]? = some (.cells #[m, a1, a2, a3, a4, a5] t (0, 0))) : (((((w.setCell ⟨p, 1, none⟩ b1).setCell ⟨p, 2, none⟩ b2).setCell ⟨p, 3, none⟩ b3).setCell ⟨p, 4, none⟩ b4).setCell ⟨p, 5, none⟩ b5).heap[p]? = some (.cells #[m, b1, b2, b3, b4, b5] t (0, 0)) := by
  have h1 : (w.setCell ⟨p, 1, none⟩ b1).heap[p]? = some (.cells #[m, b1, a2, a3, a4, a5] t (0, 0)) := heap_setCell_same w p 1 _ t b1 h
  have h2 : ((w.setCell ⟨p, 1, none⟩ b1).setCell ⟨p, 2, none⟩ b2).heap[p]? = some (.cells #[m, b1, b2, a3, a4, a5] t (0, 0)) := heap_setCell_same _ p 2 _ t b2 h1
  have h3 : (((w.setCell ⟨p, 1, none⟩ b1).setCell ⟨p, 2, none⟩ b2).setCell ⟨p, 3, none⟩ b3).heap[p]? = some (.cells #[m, b1, b2, b3, a4, a5] t (0, 0)) := heap_setCell_same _ p 3 _ t b3 h2
  have h4 : ((((w.setCell ⟨p, 1, none⟩ b1).setCell ⟨p, 2, none⟩ b2).setCell ⟨p, 3, none⟩ b3).setCell ⟨p, 4, none⟩ b4).heap[p]? = some (.cells #[m, b1, b2, b3, b4, a5] t (0, 0)) := heap_setCell_same _ p 4 _ t b4 h3
  exact heap_setCell_same _ p 5 _ t b5 h4
theorem tch51 {w w' : World} {M : Nat → Prop} {p : Nat} (h : Tch M w w') (hp : M p) (a b c d e : Value) : Tch M w (((((w'.setCell ⟨p, 1, none⟩ a).setCell ⟨p, 2, none⟩ b).setCell ⟨p, 3, none⟩ c).setCell ⟨p, 4, none⟩ d).setCell ⟨p, 5, none⟩ e) :=
  ((((h.more (Tch.set _ (p := ⟨p, 1, none⟩) hp a)).more (Tch.set _ (p := ⟨p, 2, none⟩) hp b)).more (Tch.set _ (p := ⟨p, 3, none⟩) hp c)).more (Tch.set _ (p := ⟨p, 4, none⟩) hp d)).more (Tch.set _ (p := ⟨p, 5, none⟩) hp e)
section
variable {w : World} {M : Nat → Prop} {pt : Nat} {B : List Bxd}
theorem TrIs.cells {mb : Nat} {R : Rw} {rv : Value} {q : Q4} (h : TrIs w M pt mb R rv q B) : w.cell? ⟨pt, 0, none⟩ = some (.map (some mb)) ∧ w.cell? ⟨pt, 1, none⟩ = some rv ∧ w.cell? ⟨pt, 2, none⟩ = some (pV q.1) ∧ w.cell? ⟨pt, 3, none⟩ = some (pV q.2.1) ∧ w.cell? ⟨pt, 4, none⟩ = some (pV q.2.2.1) ∧ w.cell? ⟨pt, 5, none⟩ = some (pV q.2.2.2) := cells6 h.blk
set_option maxRecDepth 100000 in
theorem lenT_call (hp : TrAt w M pt B) :
    Calls Tryz.prog 23 #[.pointer (some ⟨pt, 0, none⟩)] w fun e w' => e = .returned (.int .i64 B.length) ∧ RowKit.Below w.heap.size w w' := by
  obtain ⟨mb, R, rv, q, hI⟩ := hp
  obtain ⟨c0, -⟩ := hI.cells
  have hl := cell_lt c0
  have hlen := fun ty => hI.map.len mptB ty
  clear hI
  go_enter Tryz.func23, Tryz.ntmps23
  go_wp2
  go_ret
  exact ⟨rfl, (by repeat (first | with_reducible exact Below.refl _ _ | with_reducible assumption | with_reducible apply Ba | with_reducible apply Bd | with_reducible apply Bn | with_reducible apply Bg | (with_reducible refine Bs ?_ (by first | (simp; done) | (simp; omega)) _) | (with_reducible refine Bt ?_ (by assumption)) | (with_reducible refine Bt ?_ (Gr.below (by assumption)))))⟩
end
end Go.Proofs.YtahichjiphjapaaGreatDoor
