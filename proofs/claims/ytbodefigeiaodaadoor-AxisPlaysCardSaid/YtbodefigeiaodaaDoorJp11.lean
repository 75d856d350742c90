/-
  Package axis: a span's ends; the set of pairs: join, part, joined.
-/
import Derived.Test.YtbodefigeiaodaaDoorDe11
namespace Go.Proofs.YtbodefigeiaodaaDoor
set_option linter.unusedSimpArgs false
set_option linter.unusedVariables false
open Go.RowKit Go.Sort Go.Lib Go.Shelf

def mpV (mp : Nat) : Value := .agg #[.map (some mp)]
def ivP (s : IV) : Value := .agg #[.int .i64 s.1, .int .i64 s.2]
/-- Both ends of a span. -/
def endsV (h : Hd) (s : IV) : Value := .agg #[.int .i64 s.1, .bool false, .int .i64 h.1, .int .i64 h.2, .int .i64 s.2, .bool true, .int .i64 h.1, .int .i64 h.2]
set_option maxHeartbeats 1000000 in
set_option maxRecDepth 100000 in
theorem ends_of (a b x y : Int) (w : World) : Calls Tryd.prog 36 #[.agg #[.int .i64 a, .int .i64 b], .agg #[.int .i64 x, .int .i64 y]] w fun e w' => e = .returned (endsV (x, y) (a, b)) ∧ RowKit.Below w.heap.size w w' := by
  unfold endsV
  go_enter Tryd.func36, Tryd.ntmps36
  go_wp2
  exact bodyPost_ret (v := .agg #[.int .i64 a, .bool false, .int .i64 x, .int .i64 y, .int .i64 b, .bool true, .int .i64 x, .int .i64 y]) (by simp [results, Tryd.results36, go_sem, *]) rfl ⟨rfl, (by repeat (first | with_reducible exact Below.refl _ _ | with_reducible assumption | with_reducible apply Ba | with_reducible apply Bd | with_reducible apply Bn | with_reducible apply Bg | (with_reducible refine Bs ?_ (by first | (simp; done) | (simp; omega)) _) | (with_reducible refine Bt ?_ (by assumption)) | (with_reducible refine Bt ?_ (Gr.below (by assumption)))))⟩

theorem two_hd {a b c d : Int} (h : ¬ ((a, b) : Hd) = (c, d)) : ∃ q1 q2 q3 q4, norm ((a, b), (c, d)) = ((q1, q2), (q3, q4)) := ⟨_, _, _, _, rfl⟩
theorem norm_ok {a b : Hd} (ha : HdOk a) (hb : HdOk b) : PrOk (norm (a, b)) := by
  rcases norm_set a b with e | e <;> rw [e]
  · exact ⟨ha, hb⟩
  · exact ⟨hb, ha⟩
section
variable {mp : Nat} {K : List Pr} {w : World}
set_option maxHeartbeats 1000000 in
set_option maxRecDepth 100000 in
theorem join_call (a b c d : Int) (hne : ¬ ((a, b) : Hd) = (c, d)) (ha : HdOk (a, b)) (hc : HdOk (c, d)) (hm : MapQ w mp K.length (prF K)) (hK : K.length < 100000) :
    Calls Tryd.prog 35 #[mpV mp, .agg #[.int .i64 a, .int .i64 b], .agg #[.int .i64 c, .int .i64 d]] w fun e w' => e = .returned (.tuple #[]) ∧ MapQ w' mp (joinK K (norm ((a, b), (c, d)))).length (prF (joinK K (norm ((a, b), (c, d))))) ∧ Tch (fun k => k = mp) w w' := by
  have HP := fun W => pair_yes a b c d W hne
  have hok := norm_ok ha hc
  generalize norm ((a, b), (c, d)) = q at *
  obtain ⟨⟨q1, q2⟩, q3, q4⟩ := q
  have HPP : Hid (∀ W, Calls Tryd.prog 54 #[.agg #[.int .i64 a, .int .i64 b], .agg #[.int .i64 c, .int .i64 d]] W fun e w' => e = .returned (.tuple #[.agg #[.int .i64 q1, .int .i64 q2, .int .i64 q3, .int .i64 q4], .bool true]) ∧ RowKit.Below W.heap.size W w') := HP
  have HM := Lib.hid hm
  have HMS := hm.lt
  have HOK := Lib.hid hok
  clear hm hok HP hne ha hc
  unfold mpV
  go_enter Tryd.func35, Tryd.ntmps35
  go_wp2_with fail
  refine (HPP.out _).mono ?_
  rintro e w1 ⟨rfl, hb1⟩
  have B1 : RowKit.Below w.heap.size w w1 := Bt (Ba (Ba (Ba (Below.refl _ w) _) _) _) hb1
  have C0 : w1.cell? ⟨w.heap.size, 0, none⟩ = some (.map (some mp)) := (one_cell (blk_below (heap_alloc_new w _) (Bt (Ba (Ba (Below.refl _ _) _) _) hb1))).1
  have hl0 := cell_lt C0
  obtain ⟨w2, hrun, hm2, hg2⟩ := ((HM.out.below B1).below (Ba (Below.refl _ w1) (.cells #[.int .i64 q1, .int .i64 q2, .int .i64 q3, .int .i64 q4] 68))).put mptQ hK ((q1, q2), (q3, q4)) HOK.out ()
  unfold mP unV at hrun
  have M2 := Lib.hid hm2
  have G2 := Lib.hid hg2
  have B1' := Lib.hid B1
  clear hm2 hg2 B1 hb1
  go_wp2
  go_end0
  refine ⟨rfl, ?_, ((Tch.of B1'.out).alloc (.cells #[.int .i64 q1, .int .i64 q2, .int .i64 q3, .int .i64 q4] 68)).more ?_⟩
  · have e := M2.out.cnt (len_joinK K ((q1, q2), (q3, q4))).symm
    exact e.congr fun z => prF_put K ((q1, q2), (q3, q4)) z
  · exact ⟨G2.out.os, G2.out.tape, G2.out.output, G2.out.size, fun k hk hn => G2.out.block k hk (fun e => hn (by cases e; rfl))⟩
set_option maxHeartbeats 1000000 in
set_option maxRecDepth 100000 in
theorem part_call (a b c d : Int) (hne : ¬ ((a, b) : Hd) = (c, d)) (ha : HdOk (a, b)) (hc : HdOk (c, d)) (hm : MapQ w mp K.length (prF K)) (hK : K.Nodup) :
    Calls Tryd.prog 42 #[mpV mp, .agg #[.int .i64 a, .int .i64 b], .agg #[.int .i64 c, .int .i64 d]] w fun e w' => e = .returned (.tuple #[]) ∧ MapQ w' mp (partK K (norm ((a, b), (c, d)))).length (prF (partK K (norm ((a, b), (c, d))))) ∧ Tch (fun k => k = mp) w w' := by
  have HP := fun W => pair_yes a b c d W hne
  have hok := norm_ok ha hc
  generalize norm ((a, b), (c, d)) = q at *
  obtain ⟨⟨q1, q2⟩, q3, q4⟩ := q
  have HPP : Hid (∀ W, Calls Tryd.prog 54 #[.agg #[.int .i64 a, .int .i64 b], .agg #[.int .i64 c, .int .i64 d]] W fun e w' => e = .returned (.tuple #[.agg #[.int .i64 q1, .int .i64 q2, .int .i64 q3, .int .i64 q4], .bool true]) ∧ RowKit.Below W.heap.size W w') := HP
  have HM := Lib.hid hm
  have HMS := hm.lt
  have HOK := Lib.hid hok
  clear hm hok HP hne ha hc
  unfold mpV
  go_enter Tryd.func42, Tryd.ntmps42
  go_wp2_with fail
  refine (HPP.out _).mono ?_
  rintro e w1 ⟨rfl, hb1⟩
  have B1 : RowKit.Below w.heap.size w w1 := Bt (Ba (Ba (Ba (Below.refl _ w) _) _) _) hb1
  have C0 : w1.cell? ⟨w.heap.size, 0, none⟩ = some (.map (some mp)) := (one_cell (blk_below (heap_alloc_new w _) (Bt (Ba (Ba (Below.refl _ _) _) _) hb1))).1
  have hl0 := cell_lt C0
  obtain ⟨w2, hrun, hm2, hg2⟩ := ((HM.out.below B1).below (Ba (Below.refl _ w1) (.cells #[.int .i64 q1, .int .i64 q2, .int .i64 q3, .int .i64 q4] 68))).del mptQ ((q1, q2), (q3, q4)) HOK.out 0
  unfold mP at hrun
  have M2 := Lib.hid hm2
  have G2 := Lib.hid hg2
  have B1' := Lib.hid B1
  clear hm2 hg2 B1 hb1
  go_wp2
  go_end0
  refine ⟨rfl, ?_, ((Tch.of B1'.out).alloc (.cells #[.int .i64 q1, .int .i64 q2, .int .i64 q3, .int .i64 q4] 68)).more ?_⟩
  · have e := M2.out.cnt (len_partK ((q1, q2), (q3, q4)) hK).symm
    exact e.congr fun z => prF_del K ((q1, q2), (q3, q4)) z
  · exact ⟨G2.out.os, G2.out.tape, G2.out.output, G2.out.size, fun k hk hn => G2.out.block k hk (fun e => hn (by cases e; rfl))⟩
/-- Is the pair of two in the set? -/
def hasK (K : List Pr) (a b : Hd) : Bool := decide (a ≠ b ∧ norm (a, b) ∈ K)
set_option maxHeartbeats 1000000 in
set_option maxRecDepth 100000 in
theorem joined_call (a b c d : Int) (ha : HdOk (a, b)) (hc : HdOk (c, d)) (hm : MapQ w mp K.length (prF K)) (hz : ((((0 : Int), (0 : Int)), ((0 : Int), (0 : Int))) : Pr) ∉ K) :
    Calls Tryd.prog 51 #[mpV mp, .agg #[.int .i64 a, .int .i64 b], .agg #[.int .i64 c, .int .i64 d]] w fun e w' => e = .returned (.bool (hasK K (a, b) (c, d))) ∧ RowKit.Below w.heap.size w w' := by
  obtain ⟨q, v, bb, hok, HP, hv⟩ : ∃ (q : Pr) (v bb : Bool), PrOk q ∧ (∀ W, Calls Tryd.prog 54 #[.agg #[.int .i64 a, .int .i64 b], .agg #[.int .i64 c, .int .i64 d]] W fun e w' => e = .returned (.tuple #[.agg (encP q).toArray, .bool bb]) ∧ RowKit.Below W.heap.size W w') ∧ (v = (prF K q).isSome ∧ v = hasK K (a, b) (c, d)) := by
    by_cases hne : ((a, b) : Hd) = (c, d)
    · simp only [Prod.mk.injEq] at hne
      obtain ⟨rfl, rfl⟩ := hne
      exact ⟨((0, 0), (0, 0)), false, false, ⟨⟨by decide, by decide⟩, by decide, by decide⟩, fun W => pair_no a b W, by rw [prF_some, decide_eq_false hz], by simp [hasK]⟩
    · exact ⟨norm ((a, b), (c, d)), _, true, norm_ok ha hc, fun W => pair_yes a b c d W hne, rfl, by rw [prF_some]; simp [hasK, hne]⟩
  obtain ⟨⟨q1, q2⟩, q3, q4⟩ := q
  rw [← hv.2]
  have HPP : Hid (∀ W, Calls Tryd.prog 54 #[.agg #[.int .i64 a, .int .i64 b], .agg #[.int .i64 c, .int .i64 d]] W fun e w' => e = .returned (.tuple #[.agg #[.int .i64 q1, .int .i64 q2, .int .i64 q3, .int .i64 q4], .bool bb]) ∧ RowKit.Below W.heap.size W w') := HP
  have HL : Hid (∀ W, RowKit.Below w.heap.size w W → (Instr.lookup MapQT (.map (some mp)) (.agg #[.int .i64 q1, .int .i64 q2, .int .i64 q3, .int .i64 q4]) true).run Tryd.prog W = .ok (.tuple #[.agg #[], .bool v]) W) := fun W hb => by
    have := (hm.below hb).look2 mptQ ((q1, q2), (q3, q4)) hok
    rw [← hv.1] at this
    exact this
  have HMS := hm.lt
  clear hm hok HP hz ha hc hv
  unfold mpV
  go_enter Tryd.func51, Tryd.ntmps51
  go_wp2_with fail
  refine (HPP.out _).mono ?_
  rintro e w1 ⟨rfl, hb1⟩
  have B1 : RowKit.Below w.heap.size w w1 := Bt (Ba (Ba (Ba (Below.refl _ w) _) _) _) hb1
  have C0 : w1.cell? ⟨w.heap.size, 0, none⟩ = some (.map (some mp)) := (one_cell (blk_below (heap_alloc_new w _) (Bt (Ba (Ba (Below.refl _ _) _) _) hb1))).1
  have hl0 := cell_lt C0
  have hlk := HL.out _ (Ba B1 (.cells #[.int .i64 q1, .int .i64 q2, .int .i64 q3, .int .i64 q4] 68))
  have hlk2 := HL.out _ (Ba (Ba B1 (.cells #[.int .i64 q1, .int .i64 q2, .int .i64 q3, .int .i64 q4] 68)) (.cells #[] 113))
  clear hb1
  go_wp2
  go_ret
  exact ⟨rfl, (by repeat (first | with_reducible exact Below.refl _ _ | with_reducible assumption | with_reducible apply Ba | with_reducible apply Bd | with_reducible apply Bn | with_reducible apply Bg | (with_reducible refine Bs ?_ (by first | (simp; done) | (simp; omega)) _) | (with_reducible refine Bt ?_ (by assumption)) | (with_reducible refine Bt ?_ (Gr.below (by assumption)))))⟩
end
end Go.Proofs.YtbodefigeiaodaaDoor
