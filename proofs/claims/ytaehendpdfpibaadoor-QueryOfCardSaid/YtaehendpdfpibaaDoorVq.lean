/-
  The reference's Same, Drop.
-/
import Derived.Test.YtaehendpdfpibaaDoorVf
namespace Go.Proofs.YtaehendpdfpibaaDoor
set_option linter.unusedSimpArgs false
set_option linter.unusedVariables false
open Go.RowKit Go.Sort Go.Lib Go.Shelf

theorem eqV_run (x1 x2 x3 y1 y2 y3 : Int) (w : World) : Sem.run Tryd.prog (binOp .eql 42 (.agg #[.int .i64 x1, .int .i64 x2, .int .i64 x3]) (.agg #[.int .i64 y1, .int .i64 y2, .int .i64 y3])) w = .ok (.bool (decide ((x1, x2, x3) = (y1, y2, y3)))) w := by
  have u3 := Tryd.underlying3
  have a3 := Tryd.isAgg3
  have z3 := Tryd.sizeOf3
  have hS : Tryd.prog.underlying 42 = some (.struct (Tryd.prog.fieldsOf 42)) := by kernel_rfl
  have hp : Tryd.prog.stoodInHeld 42 = false := by kernel_rfl
  rw [run_eql_struct, show (10000 : Nat) = 9999 + 1 from rfl, run_equalIn_agg w 9999 42 _ _ hS hp]
  simp only [Program.fieldsOf, Tryd.underlying42]
  go_simp
  by_cases h1 : x1 = y1 <;> by_cases h2 : x2 = y2 <;> by_cases h3 : x3 = y3 <;> simp [h1, h2, h3]
theorem neV_run (x1 x2 x3 y1 y2 y3 : Int) (w : World) : Sem.run Tryd.prog (binOp .neq 42 (.agg #[.int .i64 x1, .int .i64 x2, .int .i64 x3]) (.agg #[.int .i64 y1, .int .i64 y2, .int .i64 y3])) w = .ok (.bool (!decide ((x1, x2, x3) = (y1, y2, y3)))) w := by
  have h := eqV_run x1 x2 x3 y1 y2 y3 w
  rw [run_eql_struct] at h
  rw [run_neq_struct]
  cases hr : (Op.equalIn 10000 42 (.agg #[.int .i64 x1, .int .i64 x2, .int .i64 x3]) (.agg #[.int .i64 y1, .int .i64 y2, .int .i64 y3])).run Tryd.prog w with
  | ok b w' =>
    rw [hr] at h
    simp only [Result.andThen_ok, Result.ok.injEq, Value.bool.injEq] at h ⊢
    obtain ⟨rfl, rfl⟩ := h
    exact ⟨rfl, rfl⟩
  | halt x w' => rw [hr] at h; simp [Result.andThen] at h
theorem gdV_run (op : BinOp) (a b : Operand) (xs ys : Array Value) (w : World) : Sem.run Tryd.prog (eqGuard op 42 a b (.agg xs) (.agg ys)) w = .ok () w :=
  run_eqGuard_agg w op 42 a b xs ys (by kernel_rfl)

theorem ext_get {la lb : List Vl} (h : la.length = lb.length) (hh : ∀ j, j < la.length → la[j]! = lb[j]!) : la = lb := by
  apply List.ext_getElem h
  intro j h1 h2
  have := hh j h1
  rwa [getElem!_pos la j h1, getElem!_pos lb j h2] at this

set_option maxHeartbeats 2000000 in
set_option maxRecDepth 100000 in
theorem same_call (la lb : List Vl) (va vb : Value) (w : World) (ha : Sl encV w va la) (hb : Sl encV w vb lb) : Calls Tryd.prog 19 #[va, vb] w fun e w' => e = .returned (.bool (decide (la = lb))) ∧ Gr w w' := by
  obtain ⟨p, cap, rfl, hl1, hl2, hl3⟩ := ha
  obtain ⟨p', cap', rfl, hm1, hm2, hm3⟩ := hb
  have HL := Lib.hid hl3
  have HM := Lib.hid hm3
  have hbig : la.length ≤ 9223372036854775807 := by unfold maxLen at hl2; omega
  clear hl3 hl2 hm3 hm2
  obtain ⟨B, hB⟩ : ∃ B, B = decide (la = lb) := ⟨_, rfl⟩
  rw [← hB]
  have HB := Lib.hid hB
  clear hB
  have ne1 := neV_run
  have gd1 := gdV_run
  by_cases hlen : la.length = lb.length
  · rw [← hlen]
    have HN := Lib.hid hlen
    obtain ⟨n, HN0⟩ : ∃ n, Hid (n = la.length) := ⟨_, rfl⟩
    rw [show la.length = n from HN0.out.symm] at hbig ⊢
    clear hlen
    go_enter Tryd.func19, Tryd.ntmps19
    go_wp2
    go_loopg [13] n (fun gk s13 wr => ∃ i : Nat, s13 = .int .i64 i ∧ i ≤ n ∧ n - i ≤ gk ∧ Gr w wr ∧ Hid (∀ j, j < i → la[j]! = lb[j]!))
    case atStart => exact ⟨0, rfl, Nat.zero_le _, by omega, Gr.refl _, fun j hj => absurd hj (Nat.not_lt_zero _)⟩
    case round =>
      obtain ⟨i, rfl, hi, hgk, hg, I⟩ := hrel
      have HG := Lib.hid hg
      by_cases hin : i < n
      · obtain ⟨g, o, rfl, hg1, hg2⟩ := HL.out (by have := HN0.out; omega)
        obtain ⟨g', o', rfl, hg1', hg2'⟩ := HM.out (by have := HN0.out; have := HN.out; omega)
        have hia : i < la.length := by have := HN0.out; omega
        have hib : i < lb.length := by have := HN0.out; have := HN.out; omega
        obtain ⟨c1, c2, c3⟩ := atV hg2 hia
        obtain ⟨c1', c2', c3'⟩ := atV hg2' hib
        have d1 : wr.cell? ⟨g, o + i * 3, none⟩ = _ := Bc HG.out.below hg1 c1
        have d2 : wr.cell? ⟨g, o + i * 3 + 1, none⟩ = _ := Bc HG.out.below hg1 c2
        have d3 : wr.cell? ⟨g, o + i * 3 + 2, none⟩ = _ := Bc HG.out.below hg1 c3
        have f1 : wr.cell? ⟨g', o' + i * 3, none⟩ = _ := Bc HG.out.below hg1' c1'
        have f2 : wr.cell? ⟨g', o' + i * 3 + 1, none⟩ = _ := Bc HG.out.below hg1' c2'
        have f3 : wr.cell? ⟨g', o' + i * 3 + 2, none⟩ = _ := Bc HG.out.below hg1' c3'
        have hgw : g < wr.heap.size := Bl HG.out.below hg1
        have hgw' : g' < wr.heap.size := Bl HG.out.below hg1'
        generalize hx : la[i]! = x at *
        generalize hy : lb[i]! = y at *
        have X := Lib.hid hx
        have Y := Lib.hid hy
        obtain ⟨x1, x2, x3⟩ := x
        obtain ⟨y1, y2, y3⟩ := y
        dsimp only at d1 d2 d3 f1 f2 f3
        clear hg2 c1 c2 c3 hx hg2' c1' c2' c3' hy hg hia hib
        by_cases hxy : ((x1, x2, x3) : Vl) = (y1, y2, y3)
        · simp only [Prod.mk.injEq] at hxy
          obtain ⟨rfl, rfl, rfl⟩ := hxy
          go_wp2_with fail
          go_region
          go_wp2
          go_roundg (n - (i + 1))
          case measure => omega
          case rel =>
            refine ⟨i + 1, by go_num, by omega, Nat.le_refl _, HG.out.drewN, (show Hid _ from fun j hj => ?_)⟩
            by_cases e : j = i
            · subst e; rw [X.out, Y.out]
            · exact I.out j (by omega)
        · have hd : decide (((x1, x2, x3) : Vl) = (y1, y2, y3)) = false := decide_eq_false hxy
          have hd2 : (decide (x1 = y1) && (decide (x2 = y2) && decide (x3 = y3))) = false := by rw [← Bool.decide_and, ← Bool.decide_and]; exact decide_eq_false fun e => hxy (by rw [e.1, e.2.1, e.2.2])
          have E := Lib.hid (show B = false by
            rw [HB.out]
            refine decide_eq_false fun e => hxy ?_
            rw [← X.out, ← Y.out, e])
          clear hxy
          go_wp2_with fail
          go_region
          go_wp2
          go_ret
          exact ⟨by rw [E.out]; rfl, HG.out.drewN⟩
      · have E := Lib.hid (show B = true by
          rw [HB.out]
          refine decide_eq_true (ext_get HN.out fun j hj => I.out j (by have := HN0.out; omega)))
        clear hg
        go_wp2
        go_ret
        exact ⟨by rw [E.out]; rfl, HG.out⟩
  · have E := Lib.hid (show B = false by rw [HB.out]; exact decide_eq_false fun e => hlen (by rw [e]))
    have hne : ((la.length : Int) == (lb.length : Int)) = false := beq_eq_false_iff_ne.2 (by omega)
    have hne2 : ((la.length : Int) != (lb.length : Int)) = true := by rw [bne, hne]; rfl
    go_enter Tryd.func19, Tryd.ntmps19
    go_wp2
    go_ret
    exact ⟨by rw [E.out]; rfl, (by repeat (first | with_reducible exact Gr.refl _ | with_reducible assumption | with_reducible apply Gr.alloc | with_reducible apply Gr.drewN | with_reducible apply Gr.drew | with_reducible apply Gr.grow | (with_reducible refine Gr.trans ?_ (by assumption))))⟩

theorem dropV_step {l : List Vl} {i : Nat} (h : i < l.length) (k : Int) : dropV (l.take (i + 1)) k = if l[i]!.1 = k then dropV (l.take i) k else dropV (l.take i) k ++ [l[i]!] := by
  rw [take_snoc l h]
  generalize l[i]! = y
  unfold dropV
  rw [List.filter_append]
  split
  · rename_i e; simp [e]
  · rename_i e; simp [e]

end Go.Proofs.YtaehendpdfpibaaDoor
