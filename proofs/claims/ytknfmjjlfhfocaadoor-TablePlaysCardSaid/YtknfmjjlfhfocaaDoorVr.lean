/-
  Row and Right of the program.
-/
import Derived.Test.YtknfmjjlfhfocaaDoorVl
namespace Go.Proofs.YtknfmjjlfhfocaaDoor
set_option linter.unusedSimpArgs false
set_option linter.unusedVariables false
open Go.RowKit Go.Sort Go.Lib Go.Shelf

theorem rightB_parts (l : List Vl) : rightB l = (decide (RiseK l) && !l.any wrongB) := by
  unfold rightB wrongB
  congr 1
  rw [List.not_any_eq_all_not]
  congr 1
  funext x
  simp
set_option maxHeartbeats 1000000 in
theorem right_call (l : List Vl) (v : Value) (A : Nat → Addr) (w : World) (hl : Sl encV w v l) (hE : Er w A) : Calls Tryd.prog 37 #[v] w fun e w' => e = .returned (.bool (rightB l)) ∧ Gr w w' := by
  rw [rightB_parts]
  have HL := Lib.hid hl
  have FR := Lib.hid (rising_call l v w hl)
  have FC : Hid (∀ W, RowKit.Below w.heap.size w W → Calls Tryd.prog 61 #[v, .func (.func 62) #[] #[]] W fun e w' => e = .returned (.bool (l.any wrongB)) ∧ Gr W w') := fun W h => containsV_call wrongB l v W (fun W2 h2 a b c => wrong_any (a, b, c) A W2 ((hE.below h).below h2)) (hl.below h)
  generalize decide (RiseK l) = p at *
  generalize l.any wrongB = q at *
  clear hl hE
  cases p
  · go_enter Tryd.func37, Tryd.ntmps37
    go_wp2_with fail
    refine FR.out.mono ?_
    rintro e w1 ⟨rfl, hg1⟩
    go_wp2
    go_ret
    exact ⟨rfl, (by repeat (first | with_reducible exact Gr.refl _ | with_reducible assumption | with_reducible apply Gr.alloc | with_reducible apply Gr.drewN | with_reducible apply Gr.drew | with_reducible apply Gr.grow | (with_reducible refine Gr.trans ?_ (by assumption))))⟩
  · cases q
    all_goals
      go_enter Tryd.func37, Tryd.ntmps37
      go_wp2_with fail
      refine FR.out.mono ?_
      rintro e w1 ⟨rfl, hg1⟩
      go_wp2_with fail
      refine (FC.out w1 hg1.below).mono ?_
      rintro e w2 ⟨rfl, hg2⟩
      go_wp2
      go_ret
      exact ⟨rfl, (by repeat (first | with_reducible exact Gr.refl _ | with_reducible assumption | with_reducible apply Gr.alloc | with_reducible apply Gr.drewN | with_reducible apply Gr.drew | with_reducible apply Gr.grow | (with_reducible refine Gr.trans ?_ (by assumption))))⟩

theorem perm_sorted {l : List Vl} {d' : Array Vl} (hp : PermIn 0 l.toArray.size l.toArray d') (hs : SortedIn ltK 0 l.toArray.size d') : d'.toList.Perm l ∧ d'.toList.Pairwise (fun x y => x.1 ≤ y.1) := by
  obtain ⟨hsz, _, hperm⟩ := hp
  have e1 : d'.extract 0 l.toArray.size = d' := by rw [← hsz]; exact Array.extract_size
  have e2 : l.toArray.extract 0 l.toArray.size = l.toArray := Array.extract_size
  rw [e1, e2] at hperm
  refine ⟨by simpa using hperm, List.pairwise_iff_getElem.2 fun i j hi hj hij => ?_⟩
  have hi' : i < d'.size := by simpa using hi
  have hj' : j < d'.size := by simpa using hj
  have := hs i j (Nat.zero_le _) hij (by omega)
  rw [getElem!_pos d' i hi', getElem!_pos d' j hj'] at this
  simp only [ltK, decide_eq_false_iff_not] at this
  simp only [Array.getElem_toList]
  omega

end Go.Proofs.YtknfmjjlfhfocaaDoor
