/-
  The reference's Put: any row in order.
-/
import Derived.Test.YtaceahjomhgccaaDoorRp10
namespace Go.Proofs.YtaceahjomhgccaaDoor
set_option linter.unusedSimpArgs false
set_option linter.unusedVariables false
open Go.RowKit Go.Sort Go.Lib Go.Shelf

set_option maxHeartbeats 2000000 in
set_option maxRecDepth 100000 in
theorem rput_none (p : Option Addr) (cap : Nat) (hcm : cap ≤ maxLen) (x1 x2 : Int) (w : World) :
    Calls Tryd.prog 12 #[.slice p 0 cap, .agg #[.int .i64 x1, .int .i64 x2]] w fun e w' => ∃ v', e = .returned v' ∧ w'.ownsRow w.heap.size 37 2 v' 1 (flat encH [((x1, x2) : Hd)]) ∧ RowKit.Below w.heap.size w w' := by
  have HCM := Lib.hid hcm
  unfold maxLen at hcm
  go_enter Tryd.func12, Tryd.ntmps12
  go_wp2
  refine wp_loop_rounds 1 ?_
  rw [rounds_succ]
  go_wp2_with fail
  go_quiet (fail)
  obtain ⟨W2, hW2⟩ : ∃ W2, W2 = (w.alloc (.cells #[.int .i64 x1, .int .i64 x2] 37)).drewN nq := ⟨_, rfl⟩
  have B2 : Hid (RowKit.Below w.heap.size w W2) := by rw [hW2]; exact Bn (Ba (Below.refl _ _) _)
  have X2 := Lib.hid (show W2.heap[w.heap.size]? = some (.cells #[.int .i64 x1, .int .i64 x2] 37 (0, 0)) by rw [hW2]; exact blk_below (heap_alloc_new w _) (Bn (Below.refl _ _)))
  rw [← hW2]
  clear hW2
  have A1 := Lib.hid (Ba B2.out (.cells #[] 37))
  obtain ⟨d1, d2, _⟩ := two_cells (blk_below X2.out (Ba (Below.refl _ W2) (.cells #[] 37)))
  have O1 := Lib.hid (show (W2.alloc (.cells #[] 37)).ownsRow w.heap.size 37 2 (.slice (some ⟨W2.heap.size, 0, none⟩) 0 0) 0 (flat encH ([] : List Hd)) from World.ownsRow_made _ #[] 0 B2.out.size (Nat.zero_le _) (by simp))
  have A3 := Lib.hid (Ba A1.out (.cells #[.int .i64 x1, .int .i64 x2] 37))
  have O4 := Lib.hid (O1.out.alloc (.cells #[.int .i64 x1, .int .i64 x2] 37))
  have S4 := Lib.hid (sl_lit (enc := encH) (w := W2.alloc (.cells #[] 37)) (cs := #[.int .i64 x1, .int .i64 x2]) (t := 37) (b := W2.heap.size + 1) [((x1, x2) : Hd)] (by simp) rfl (by unfold maxLen; simp))
  cases p
  all_goals
    go_wp2_with (first
      | (at_builtin; refine wpl_app apR rfl _ _ rfl w.heap.size (by rfl) (by rfl) O4.out (by first | (simp; done) | (simp; omega)) S4.out (by first | (simp; done) | (simp; omega)) A3.out.size ?_; intro v2 w2 hown2 hgrow2 hnil2; have b5 := grownB A3.out O4.out hgrow2; have B5 := Lib.hid b5; have O5 := Lib.hid hown2; clear hown2 hgrow2 hnil2 b5 O4)
      | (at_builtin; refine wpl_app apR rfl _ _ rfl w.heap.size (by rfl) (by rfl) O5.out (by first | (simp; done) | (simp; omega)) (Sl.nil _ _ (by first | exact HCM.out | (have := HCM.out; omega))) (by first | (simp; done) | (simp; omega)) B5.out.size ?_; intro v3 w3 hown3 hgrow3 hnil3))
  all_goals
    have b6 := grownB B5.out O5.out hgrow3
    go_ret
    exact ⟨v3, rfl, by simpa using hown3, b6⟩
/-- The reference's Put. -/
theorem rput_call (l : List Hd) (v : Value) (x1 x2 : Int) (w : World) (hv : Sl encH w v l) (hlen : l.length ≤ 100000) :
    Calls Tryd.prog 12 #[v, .agg #[.int .i64 x1, .int .i64 x2]] w fun e w' => ∃ v', e = .returned v' ∧ w'.ownsRow w.heap.size 37 2 v' (putL ltH l (x1, x2)).length (flat encH (putL ltH l (x1, x2))) ∧ RowKit.Below w.heap.size w w' := by
  rcases Nat.eq_zero_or_pos l.length with h0 | h0
  · obtain rfl : l = [] := List.length_eq_zero_iff.1 h0
    obtain ⟨p, cap, rfl, h1, h2, hX⟩ := hv
    exact rput_none p cap h2 x1 x2 w
  · exact rput_some l v x1 x2 w hv h0 hlen
end Go.Proofs.YtaceahjomhgccaaDoor
