/-
  What only reads, two lists: SamePairs, SameInts; PairLess, order.Pair, Has.
-/
import Derived.Test.YtbodefigeiaodaaDoorFb
namespace Go.Proofs.YtbodefigeiaodaaDoor
set_option linter.unusedSimpArgs false
set_option linter.unusedVariables false
open Go.RowKit Go.Sort Go.Lib Go.Shelf

set_option maxHeartbeats 1000000 in
/-- The reference's SamePairs: two lists of pairs. -/
theorem samePairs_call (la lb : List Pr) (va vb : Value) (w : World) (ha : Sl encP w va la) (hb : Sl encP w vb lb) : Calls Tryd.prog 20 #[va, vb] w fun e w' => e = .returned (.bool (decide (la = lb))) ∧ Gr w w' := by
  obtain ⟨pa, ca, rfl, ha1, ha2, ha⟩ := ha
  obtain ⟨pb, cb, rfl, hb1, hb2, hb⟩ := hb
  have eq1 : ∀ a b c d p q r s w, Sem.run Tryd.prog (binOp .eql 68 (.agg #[.int .i64 a, .int .i64 b, .int .i64 c, .int .i64 d]) (.agg #[.int .i64 p, .int .i64 q, .int .i64 r, .int .i64 s])) w = .ok (.bool (decide (((a, b), (c, d)) = ((p, q), (r, s))))) w := fun a b c d p q r s w => eqP_run ((a, b), (c, d)) ((p, q), (r, s)) w
  have ne1 : ∀ a b c d p q r s w, Sem.run Tryd.prog (binOp .neq 68 (.agg #[.int .i64 a, .int .i64 b, .int .i64 c, .int .i64 d]) (.agg #[.int .i64 p, .int .i64 q, .int .i64 r, .int .i64 s])) w = .ok (.bool (!decide (((a, b), (c, d)) = ((p, q), (r, s))))) w := fun a b c d p q r s w => neP_run ((a, b), (c, d)) ((p, q), (r, s)) w
  have gd1 := gdP_run
  by_cases hl : la.length = lb.length
  · have hbig : la.length ≤ 9223372036854775807 := by unfold maxLen at ha2; omega
    have HA := Lib.hid ha
    have HB := Lib.hid hb
    clear ha hb ha2 hb2
    go_enter Tryd.func20, Tryd.ntmps20
    rw [← hl]
    go_wp2
    go_loopw [13] (fun i wr => ∃ k : Nat, k ≤ la.length ∧ i = .int .i64 k ∧ Gr w wr ∧ la.take k = lb.take k) (fun i _ => la.length - (intOf i).toNat)
    case atStart => exact ⟨0, Nat.zero_le _, rfl, (by repeat (first | with_reducible exact Gr.refl _ | with_reducible assumption | with_reducible apply Gr.alloc | with_reducible apply Gr.drewN | with_reducible apply Gr.drew | with_reducible apply Gr.grow | (with_reducible refine Gr.trans ?_ (by assumption)))), by simp⟩
    case round =>
      obtain ⟨k, hk, rfl, hg, ht⟩ := hrel
      by_cases hkn : k < la.length
      · obtain ⟨g, o, rfl, hg1, hg2⟩ := HA.out (by omega)
        obtain ⟨g', o', rfl, hg3, hg4⟩ := HB.out (by omega)
        obtain ⟨c1, c2, c3, c4⟩ := atP hg2 hkn
        obtain ⟨d1, d2, d3, d4⟩ := atP hg4 (show k < lb.length by omega)
        replace c1 := Bc hg.below hg1 c1
        replace c2 := Bc hg.below hg1 c2
        replace c3 := Bc hg.below hg1 c3
        replace c4 := Bc hg.below hg1 c4
        replace d1 := Bc hg.below hg3 d1
        replace d2 := Bc hg.below hg3 d2
        replace d3 := Bc hg.below hg3 d3
        replace d4 := Bc hg.below hg3 d4
        have hstep := Lib.hid (take_succ_eq la lb k hl hkn ht)
        have HT := Lib.hid ht
        clear ht hg2 hg4
        generalize hx : la[k]! = x at *
        generalize hy : lb[k]! = y at *
        obtain ⟨⟨x1, x2⟩, x3, x4⟩ := x
        obtain ⟨⟨y1, y2⟩, y3, y4⟩ := y
        dsimp only at c1 c2 c3 c4 d1 d2 d3 d4
        by_cases hxy : (((x1, x2), (x3, x4)) : Pr) = ((y1, y2), (y3, y4))
        · have e : decide ((((x1, x2), (x3, x4)) : Pr) = ((y1, y2), (y3, y4))) = true := decide_eq_true hxy
          go_wp2_with fail
          go_region
          go_wp2
          go_roundw
          case measure => simp [intOf]; omega
          case rel => exact ⟨k + 1, by omega, by go_num, (by repeat (first | with_reducible exact Gr.refl _ | with_reducible assumption | with_reducible apply Gr.alloc | with_reducible apply Gr.drewN | with_reducible apply Gr.drew | with_reducible apply Gr.grow | (with_reducible refine Gr.trans ?_ (by assumption)))), hstep.out.2 hxy⟩
        · have e : decide ((((x1, x2), (x3, x4)) : Pr) = ((y1, y2), (y3, y4))) = false := decide_eq_false hxy
          have hne : decide (la = lb) = false := decide_eq_false fun h => hxy (hstep.out.1 (by rw [h]))
          go_wp2_with fail
          go_region
          go_wp2
          go_ret
          exact ⟨by rw [hne]; rfl, (by repeat (first | with_reducible exact Gr.refl _ | with_reducible assumption | with_reducible apply Gr.alloc | with_reducible apply Gr.drewN | with_reducible apply Gr.drew | with_reducible apply Gr.grow | (with_reducible refine Gr.trans ?_ (by assumption))))⟩
      · have hkn' : k = la.length := by omega
        have he : la = lb := by
          have := ht
          rwa [hkn', List.take_length, hl, List.take_length] at this
        go_wp2
        go_ret
        exact ⟨by rw [decide_eq_true he]; rfl, (by repeat (first | with_reducible exact Gr.refl _ | with_reducible assumption | with_reducible apply Gr.alloc | with_reducible apply Gr.drewN | with_reducible apply Gr.drew | with_reducible apply Gr.grow | (with_reducible refine Gr.trans ?_ (by assumption))))⟩
  · have hne : decide (la = lb) = false := decide_eq_false fun h => hl (by rw [h])
    have hz : ((la.length : Int) == (lb.length : Int)) = false := by simp; omega
    clear ha hb
    go_enter Tryd.func20, Tryd.ntmps20
    go_wp2
    go_ret
    exact ⟨by rw [hne]; rfl, (by repeat (first | with_reducible exact Gr.refl _ | with_reducible assumption | with_reducible apply Gr.alloc | with_reducible apply Gr.drewN | with_reducible apply Gr.drew | with_reducible apply Gr.grow | (with_reducible refine Gr.trans ?_ (by assumption))))⟩
theorem less_is {a b c d : Int} {v : Bool} (h : ltH (a, b) (c, d) = v) (w : World) : Calls Tryd.prog 70 #[.agg #[.int .i64 a, .int .i64 b], .agg #[.int .i64 c, .int .i64 d]] w fun e w' => e = .returned (.bool v) ∧ Gr w w' := by
  subst h
  exact less_call a b c d w
theorem rless_is {a b c d : Int} {v : Bool} (h : ltH (a, b) (c, d) = v) (w : World) : Calls Tryd.prog 62 #[.agg #[.int .i64 a, .int .i64 b], .agg #[.int .i64 c, .int .i64 d]] w fun e w' => e = .returned (.bool v) ∧ Gr w w' := by
  subst h
  exact rless_call a b c d w

theorem and_ne {a b c d : Int} (h : ¬ ((a, b) : Hd) = (c, d)) : (decide (a = c) && decide (b = d)) = false := by
  rw [← Bool.decide_and]
  exact decide_eq_false fun e => h (by rw [e.1, e.2])

set_option maxHeartbeats 1000000 in
/-- The reference's PairLess. -/
theorem pairLess_call (a b c d p q r s : Int) (w : World) : Calls Tryd.prog 67 #[.agg #[.int .i64 a, .int .i64 b, .int .i64 c, .int .i64 d], .agg #[.int .i64 p, .int .i64 q, .int .i64 r, .int .i64 s]] w fun e w' => e = .returned (.bool (ltP ((a, b), (c, d)) ((p, q), (r, s)))) ∧ Gr w w' := by
  have eq1 := eqH_run
  have gd1 := gdH_run
  cases h1 : ltH (a, b) (p, q)
  · by_cases h2 : ((a, b) : Hd) = (p, q)
    · obtain ⟨rfl, rfl⟩ : a = p ∧ b = q := by simpa using h2
      have e : ltP ((a, b), (c, d)) ((a, b), (r, s)) = ltH (c, d) (r, s) := by rw [ltP_eq, h1]; simp
      rw [e]
      clear h1 e h2
      go_enter Tryd.func67, Tryd.ntmps67
      have c1 : ∀ W, Calls Tryd.prog 62 #[.agg #[.int .i64 a, .int .i64 b], .agg #[.int .i64 a, .int .i64 b]] W fun e w' => e = .returned (.bool false) ∧ Gr W w' := fun W => rless_is (sto_hd.irrefl _) W
      go_wp2_with fail
      refine (c1 _).mono ?_
      rintro e w1 ⟨rfl, hg1⟩
      have hb1 := hg1.below
      obtain ⟨hc1, hf1⟩ := bcell hb1; have hz0 : w.heap.size < w1.heap.size := Bl hb1 (by first | assumption | (simp; done) | (simp; omega)); have hz1 : w.heap.size + 1 < w1.heap.size := Bl hb1 (by first | assumption | (simp; done) | (simp; omega))
      go_wp2_with fail
      refine (rless_call _ _ _ _ _).mono ?_
      rintro e w2 ⟨rfl, hg2⟩
      go_wp2
      go_ret
      exact ⟨rfl, (by repeat (first | with_reducible exact Gr.refl _ | with_reducible assumption | with_reducible apply Gr.alloc | with_reducible apply Gr.drewN | with_reducible apply Gr.drew | with_reducible apply Gr.grow | (with_reducible refine Gr.trans ?_ (by assumption))))⟩
    · have e2 := and_ne h2
      have e : ltP ((a, b), (c, d)) ((p, q), (r, s)) = false := by rw [ltP_eq, h1]; simp only [decide_eq_false h2]; rfl
      rw [e]
      have H1 := Lib.hid h1
      clear h1 e h2
      go_enter Tryd.func67, Tryd.ntmps67
      go_wp2_with (go_at_call 62; refine (rless_is H1.out _).mono ?_; rintro e w1 ⟨rfl, hg1⟩; have hb1 := hg1.below; obtain ⟨hc1, hf1⟩ := bcell hb1; have hz0 : w.heap.size < w1.heap.size := Bl hb1 (by first | assumption | (simp; done) | (simp; omega)); have hz1 : w.heap.size + 1 < w1.heap.size := Bl hb1 (by first | assumption | (simp; done) | (simp; omega)))
      go_ret
      exact ⟨rfl, (by repeat (first | with_reducible exact Gr.refl _ | with_reducible assumption | with_reducible apply Gr.alloc | with_reducible apply Gr.drewN | with_reducible apply Gr.drew | with_reducible apply Gr.grow | (with_reducible refine Gr.trans ?_ (by assumption))))⟩
  · have e : ltP ((a, b), (c, d)) ((p, q), (r, s)) = true := by rw [ltP_eq, h1]; rfl
    rw [e]
    have H1 := Lib.hid h1
    clear h1 e
    go_enter Tryd.func67, Tryd.ntmps67
    go_wp2_with (go_at_call 62; refine (rless_is H1.out _).mono ?_; rintro e w1 ⟨rfl, hg1⟩; have hb1 := hg1.below; obtain ⟨hc1, hf1⟩ := bcell hb1; have hz0 : w.heap.size < w1.heap.size := Bl hb1 (by first | assumption | (simp; done) | (simp; omega)); have hz1 : w.heap.size + 1 < w1.heap.size := Bl hb1 (by first | assumption | (simp; done) | (simp; omega)))
    go_ret
    exact ⟨rfl, (by repeat (first | with_reducible exact Gr.refl _ | with_reducible assumption | with_reducible apply Gr.alloc | with_reducible apply Gr.drewN | with_reducible apply Gr.drew | with_reducible apply Gr.grow | (with_reducible refine Gr.trans ?_ (by assumption))))⟩

set_option maxHeartbeats 1000000 in
/-- order.Pair: of two same ones no pair. -/
theorem pair_no (a b : Int) (w : World) : Calls Tryd.prog 54 #[.agg #[.int .i64 a, .int .i64 b], .agg #[.int .i64 a, .int .i64 b]] w fun e w' => e = .returned (.tuple #[.agg #[.int .i64 0, .int .i64 0, .int .i64 0, .int .i64 0], .bool false]) ∧ Below w.heap.size w w' := by
  have eq1 := eqH_run
  have gd1 := gdH_run
  go_enter Tryd.func54, Tryd.ntmps54
  go_wp2
  exact bodyPost_ret (v := .tuple #[.agg #[.int .i64 0, .int .i64 0, .int .i64 0, .int .i64 0], .bool false]) (by simp [results, Tryd.results54, go_sem, *]) rfl ⟨rfl, (by repeat (first | with_reducible exact Below.refl _ _ | with_reducible assumption | with_reducible apply Ba | with_reducible apply Bd | with_reducible apply Bn | with_reducible apply Bg | (with_reducible refine Bs ?_ (by first | (simp; done) | (simp; omega)) _) | (with_reducible refine Bt ?_ (by assumption)) | (with_reducible refine Bt ?_ (Gr.below (by assumption)))))⟩

set_option maxHeartbeats 1000000 in
/-- order.Pair: of two that aren't the same the pair, the lesser one first. -/
theorem pair_yes (a b c d : Int) (w : World) (hne : ¬ ((a, b) : Hd) = (c, d)) : Calls Tryd.prog 54 #[.agg #[.int .i64 a, .int .i64 b], .agg #[.int .i64 c, .int .i64 d]] w fun e w' => e = .returned (.tuple #[.agg (encP (norm ((a, b), (c, d)))).toArray, .bool true]) ∧ Below w.heap.size w w' := by
  have eq1 := eqH_run
  have gd1 := gdH_run
  have e2 := and_ne hne
  clear hne
  cases h : ltH (c, d) (a, b)
  · have e : norm ((a, b), (c, d)) = ((a, b), (c, d)) := by unfold norm; rw [if_neg (by dsimp only; rw [h]; simp)]
    rw [e]
    have H := Lib.hid h
    clear h e
    go_enter Tryd.func54, Tryd.ntmps54
    go_wp2_with (go_at_call 70; refine (less_is H.out _).mono ?_; rintro e w1 ⟨rfl, hg1⟩; have hb1 := hg1.below; obtain ⟨hc1, hf1⟩ := bcell hb1; have hz0 : w.heap.size < w1.heap.size := Bl hb1 (by first | assumption | (simp; done) | (simp; omega)); have hz1 : w.heap.size + 1 < w1.heap.size := Bl hb1 (by first | assumption | (simp; done) | (simp; omega)); have hz2 : w.heap.size + 1 + 1 < w1.heap.size := Bl hb1 (by first | assumption | (simp; done) | (simp; omega)))
    exact bodyPost_ret (v := .tuple #[.agg #[.int .i64 a, .int .i64 b, .int .i64 c, .int .i64 d], .bool true]) (by simp [results, Tryd.results54, go_sem, *]) rfl ⟨rfl, (by repeat (first | with_reducible exact Below.refl _ _ | with_reducible assumption | with_reducible apply Ba | with_reducible apply Bd | with_reducible apply Bn | with_reducible apply Bg | (with_reducible refine Bs ?_ (by first | (simp; done) | (simp; omega)) _) | (with_reducible refine Bt ?_ (by assumption)) | (with_reducible refine Bt ?_ (Gr.below (by assumption)))))⟩
  · have e : norm ((a, b), (c, d)) = ((c, d), (a, b)) := by unfold norm; rw [if_pos (by dsimp only; rw [h])]
    rw [e]
    have H := Lib.hid h
    clear h e
    go_enter Tryd.func54, Tryd.ntmps54
    go_wp2_with fail
    refine (less_is H.out _).mono ?_
    rintro e w1 ⟨rfl, hg1⟩
    have hb1 := hg1.below
    obtain ⟨hc1, hf1⟩ := bcell hb1
    have x0 : w1.cell? ⟨w.heap.size, 0, none⟩ = some (.int .i64 a) := by rw [hc1 _ _ (by go_simp)]; go_simp
    have x1 : w1.cell? ⟨w.heap.size, 1, none⟩ = some (.int .i64 b) := by rw [hc1 _ _ (by go_simp)]; go_simp
    have x2 : w1.cell? ⟨w.heap.size + 1, 0, none⟩ = some (.int .i64 c) := by rw [hc1 _ _ (by go_simp)]; go_simp
    have x3 : w1.cell? ⟨w.heap.size + 1, 1, none⟩ = some (.int .i64 d) := by rw [hc1 _ _ (by go_simp)]; go_simp
    have x4 : w1.cell? ⟨w.heap.size + 1 + 1, 0, none⟩ = some (.int .i64 0) := by rw [hc1 _ _ (by go_simp)]; go_simp
    have x5 : w1.cell? ⟨w.heap.size + 1 + 1, 1, none⟩ = some (.int .i64 0) := by rw [hc1 _ _ (by go_simp)]; go_simp
    have x6 : w1.cell? ⟨w.heap.size + 1 + 1, 2, none⟩ = some (.int .i64 0) := by rw [hc1 _ _ (by go_simp)]; go_simp
    have x7 : w1.cell? ⟨w.heap.size + 1 + 1, 3, none⟩ = some (.int .i64 0) := by rw [hc1 _ _ (by go_simp)]; go_simp
    have y0 : ∀ o, w1.frozen? ⟨w.heap.size, o, none⟩ = false := fun o => by rw [hf1 _ _ (by go_simp)]; go_simp
    have y1 : ∀ o, w1.frozen? ⟨w.heap.size + 1, o, none⟩ = false := fun o => by rw [hf1 _ _ (by go_simp)]; go_simp
    have y2 : ∀ o, w1.frozen? ⟨w.heap.size + 1 + 1, o, none⟩ = false := fun o => by rw [hf1 _ _ (by go_simp)]; go_simp
    clear hc1 hf1
    go_wp2
    exact bodyPost_ret (v := .tuple #[.agg #[.int .i64 c, .int .i64 d, .int .i64 a, .int .i64 b], .bool true]) (by simp [results, Tryd.results54, go_sem, *]) rfl ⟨rfl, (by repeat (first | with_reducible exact Below.refl _ _ | with_reducible assumption | with_reducible apply Ba | with_reducible apply Bd | with_reducible apply Bn | with_reducible apply Bg | (with_reducible refine Bs ?_ (by first | (simp; done) | (simp; omega)) _) | (with_reducible refine Bt ?_ (by assumption)) | (with_reducible refine Bt ?_ (Gr.below (by assumption)))))⟩

end Go.Proofs.YtbodefigeiaodaaDoor
