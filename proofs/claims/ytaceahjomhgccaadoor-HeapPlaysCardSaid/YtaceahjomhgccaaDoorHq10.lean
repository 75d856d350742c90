/-
  Package heap's calls at a heap in memory: New, Len, ahead, swap, rise, sink.
-/
import Derived.Test.YtaceahjomhgccaaDoorHc10
import Derived.BigRegion
import Derived.Deep.CutBlock
import Derived.Deep.CutRange
import Derived.Deep.DeepCutAuto
namespace Go.Proofs.YtaceahjomhgccaaDoor
set_option linter.unusedSimpArgs false
set_option linter.unusedVariables false
open Go.RowKit Go.Sort Go.Lib Go.Shelf

theorem new_call (w : World) : Calls Tryd.prog 9 #[] w fun e w' => e = .returned (psP w.heap.size) ∧ HpAt w' (Fresh w w') w.heap.size [] ∧ RowKit.Below w.heap.size w w' := by
  have X := Lib.hid (hp_made w)
  go_enter Tryd.func9, Tryd.ntmps9
  go_wp2
  go_ret
  exact ⟨rfl, X.out.at, (by repeat (first | with_reducible exact Below.refl _ _ | with_reducible assumption | with_reducible apply Ba | with_reducible apply Bd | with_reducible apply Bn | with_reducible apply Bg | (with_reducible refine Bs ?_ (by first | (simp; done) | (simp; omega)) _) | (with_reducible refine Bt ?_ (by assumption)) | (with_reducible refine Bt ?_ (Gr.below (by assumption)))))⟩

section
variable {pa : Nat} {L : List Hd} {M : Nat → Prop} {w : World}
theorem len_call (hp : HpAt w M pa L) : Calls Tryd.prog 16 #[.pointer (some ⟨pa, 0, none⟩)] w fun e w' => e = .returned (.int .i64 L.length) ∧ w = w' := by
  obtain ⟨p, cap, hi, h1, h2, _⟩ := hp.open
  have hl := hi.lt
  obtain ⟨c0, f0⟩ := hi.cells
  clear hi hp
  go_enter Tryd.func16, Tryd.ntmps16
  go_wp2
  go_ret
  exact ⟨rfl, rfl⟩

set_option maxHeartbeats 1000000 in
set_option maxRecDepth 100000 in
theorem ahead_call (hp : HpAt w M pa L) (i k : Nat) (hi : i < L.length) (hk : k < L.length) : Calls Tryd.prog 24 #[.pointer (some ⟨pa, 0, none⟩), .int .i64 i, .int .i64 k] w fun e w' => e = .returned (.bool (ltH L[i]! L[k]!)) ∧ Gr w w' := by
  obtain ⟨p, cap, hI, h1, h2, h3⟩ := hp.open
  obtain ⟨g, rfl, hg, hne⟩ := h3 (by omega)
  have hl := hI.lt
  obtain ⟨c0, f0⟩ := hI.cells
  obtain ⟨⟨d1, d2⟩, _⟩ := rowE hI.2.2.1 hi
  obtain ⟨⟨e1, e2⟩, _⟩ := rowE hI.2.2.1 hk
  clear hI hp h3 f0
  rw [← cmpH_lt]
  generalize L[i]! = x at *
  generalize hy : L[k]! = y at *
  clear hy
  obtain ⟨x1, x2⟩ := x
  obtain ⟨y1, y2⟩ := y
  dsimp only at *
  go_enter Tryd.func24, Tryd.ntmps24
  go_wp2_with fail
  go_region_held3 (fun w' => Gr (w) w' ∧ ∀ b_1 o, b_1 < (w).heap.size → w'.cell? ⟨b_1, o, none⟩ = (w).cell? ⟨b_1, o, none⟩) (first | exact gkeep0 _ | exact gkeepG (by assumption) hg1 | exact gkeepA (by assumption) _ | assumption) (first | (go_at_call 23; refine (cmpE_call x1 x2 y1 y2 _).mono ?_; rintro e w1 ⟨rfl, hg1⟩))
  go_wp2
  go_ret
  exact ⟨rfl, (by repeat (first | with_reducible exact Gr.refl _ | with_reducible assumption | with_reducible apply Gr.alloc | with_reducible apply Gr.drewN | with_reducible apply Gr.drew | with_reducible apply Gr.grow | (with_reducible refine Gr.trans ?_ (by assumption))))⟩

set_option maxHeartbeats 1000000 in
set_option maxRecDepth 100000 in
theorem swap_call (hp : HpAt w M pa L) (i k : Nat) (hi : i < L.length) (hk : k < L.length) (hik : i ≠ k) : Calls Tryd.prog 25 #[.pointer (some ⟨pa, 0, none⟩), .int .i64 i, .int .i64 k] w fun e w' => e = .returned (.tuple #[]) ∧ HpAt w' M pa (swapL L i k) ∧ Tch M w w' := by
  obtain ⟨p, cap, hI, h1, h2, h3⟩ := hp.open
  obtain ⟨g, rfl, hg, hne⟩ := h3 (by omega)
  have hl := hI.lt
  obtain ⟨c0, f0⟩ := hI.cells
  obtain ⟨⟨d1, d2⟩, v1, v2⟩ := rowE hI.2.2.1 hi
  obtain ⟨⟨e1, e2⟩, v3, v4⟩ := rowE hI.2.2.1 hk
  have P : HpIs w M pa (.slice (some ⟨g, 0, none⟩) L.length cap) L := hI
  unfold swapL
  generalize hx : L[i]! = x at *
  generalize hy : L[k]! = y at *
  obtain ⟨x1, x2⟩ := x
  obtain ⟨y1, y2⟩ := y
  obtain ⟨P1, t1⟩ := hI.set i hi (y1, y2)
  obtain ⟨P2, t2⟩ := P1.set k (by simpa using hk) (x1, x2)
  have X := Lib.hid P2
  have T := Lib.hid (t1.more t2)
  clear hI hp h3 P1 P2 t1 t2 hx hy P
  dsimp only at *
  go_enter Tryd.func25, Tryd.ntmps25
  go_wp2_with fail
  go_region
  all_goals
    go_wp2
    go_end0
    exact ⟨rfl, X.out.at, T.out.drew⟩
end
end Go.Proofs.YtaceahjomhgccaaDoor
