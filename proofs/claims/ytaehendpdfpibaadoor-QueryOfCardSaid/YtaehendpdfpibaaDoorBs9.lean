/-
  The reference's masks, on: Set, Number, Kinds, Fits; paddocknum's In.
-/
import Derived.Test.YtaehendpdfpibaaDoorBt9
import Derived.Laws.ResultCell
namespace Go.Proofs.YtaehendpdfpibaaDoor
set_option linter.unusedSimpArgs false
set_option linter.unusedVariables false
open Go.RowKit Go.Sort Go.Lib Go.Shelf
def fitsB (f g h : Nat → Bool) (n : Nat) : Bool := (List.range n).all fun i => !(g i && !f i || h i && f i)
theorem fitsB_succ (f g h : Nat → Bool) (n : Nat) : fitsB f g h (n + 1) = (fitsB f g h n && !(g n && !f n || h n && f n)) := by
  unfold fitsB
  rw [List.range_succ, List.all_append]
  simp
theorem fitsB_no {f g h : Nat → Bool} {k : Nat} (hk : k < 64) (e : (!(g k && !f k || h k && f k)) = false) : fitsB f g h 64 = false := by
  unfold fitsB
  rw [Bool.eq_false_iff]
  intro hall
  have := List.all_eq_true.1 hall k (by simp; exact hk)
  rw [e] at this
  cases this

set_option maxHeartbeats 4000000 in
set_option maxRecDepth 100000 in
theorem rfits_call (f g h : Nat → Bool) (w : World) :
    Calls Tryd.prog 24 #[.agg (bv f), .agg (bv g), .agg (bv h)] w fun e w' => e = .returned (.bool (fitsB f g h 64)) ∧ Gr w w' := by
  have hs := bv_size
  go_enter Tryd.func24, Tryd.ntmps24
  go_wp2
  go_loopw [7] (fun i wr => ∃ k : Nat, k ≤ 64 ∧ i = .int .i64 k ∧ wr = ((w.alloc (.cells (bv f) 46)).alloc (.cells (bv g) 46)).alloc (.cells (bv h) 46) ∧ fitsB f g h k = true) (fun i _ => 64 - (intOf i).toNat)
  case atStart => exact ⟨0, Nat.zero_le _, rfl, rfl, rfl⟩
  case round =>
    obtain ⟨k, hk, rfl, rfl, hfit⟩ := hrel
    by_cases hk6 : k < 64
    · have hkz : (k : Int) < 64 := by omega
      have e1 : ∀ h' : k < (bv f).size, (bv f)[k]'h' = .bool (f k) := fun h' => by have := bv_get f k hk6; rw [Array.getElem?_eq_getElem h'] at this; exact Option.some.inj this
      have e2 : ∀ h' : k < (bv g).size, (bv g)[k]'h' = .bool (g k) := fun h' => by have := bv_get g k hk6; rw [Array.getElem?_eq_getElem h'] at this; exact Option.some.inj this
      have e3 : ∀ h' : k < (bv h).size, (bv h)[k]'h' = .bool (h k) := fun h' => by have := bv_get h k hk6; rw [Array.getElem?_eq_getElem h'] at this; exact Option.some.inj this
      have g1 := bv_get f k hk6
      have g2 := bv_get g k hk6
      have g3 := bv_get h k hk6
      have HN := Lib.hid (fun e => fitsB_no (f := f) (g := g) (h := h) (k := k) hk6 e)
      have HS := Lib.hid (fitsB_succ f g h k)
      have HF := Lib.hid hfit
      clear hfit
      cases hf : f k <;> cases hg : g k <;> cases hh : h k <;> rw [hf] at e1 g1 HN HS <;> rw [hg] at e2 g2 HN HS <;> rw [hh] at e3 g3 HN HS <;> clear hf hg hh
      all_goals first
        | (go_wp2
           go_roundw
           case measure => simp [intOf]; omega
           case rel => exact ⟨k + 1, by omega, by go_num, trivial, by rw [HS.out, HF.out]; rfl⟩)
        | (go_wp2
           go_ret
           exact ⟨by rw [HN.out rfl]; rfl, (by repeat (first | with_reducible exact Gr.refl _ | with_reducible assumption | with_reducible apply Gr.alloc | with_reducible apply Gr.drewN | with_reducible apply Gr.drew | with_reducible apply Gr.grow | (with_reducible refine Gr.trans ?_ (by assumption))))⟩)
    · have hk64 : k = 64 := by omega
      subst hk64
      have HF := Lib.hid hfit
      clear hfit
      go_wp2
      go_ret
      exact ⟨by rw [HF.out]; rfl, (by repeat (first | with_reducible exact Gr.refl _ | with_reducible assumption | with_reducible apply Gr.alloc | with_reducible apply Gr.drewN | with_reducible apply Gr.drew | with_reducible apply Gr.grow | (with_reducible refine Gr.trans ?_ (by assumption))))⟩

end Go.Proofs.YtaehendpdfpibaaDoor
