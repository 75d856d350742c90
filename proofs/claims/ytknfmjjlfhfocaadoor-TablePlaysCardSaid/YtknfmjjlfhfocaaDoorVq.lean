/-
  The reference's Same, Drop.
-/
import Derived.Test.YtknfmjjlfhfocaaDoorVf
namespace Go.Proofs.YtknfmjjlfhfocaaDoor
set_option linter.unusedSimpArgs false
set_option linter.unusedVariables false
open Go.RowKit Go.Sort Go.Lib Go.Shelf

theorem eqV_run (x1 x2 x3 y1 y2 y3 : Int) (w : World) : Sem.run Tryd.prog (binOp .eql 41 (.agg #[.int .i64 x1, .int .i64 x2, .int .i64 x3]) (.agg #[.int .i64 y1, .int .i64 y2, .int .i64 y3])) w = .ok (.bool (decide ((x1, x2, x3) = (y1, y2, y3)))) w := by
  have u3 := Tryd.underlying3
  have a3 := Tryd.isAgg3
  have z3 := Tryd.sizeOf3
  have hS : Tryd.prog.underlying 41 = some (.struct (Tryd.prog.fieldsOf 41)) := by kernel_rfl
  have hp : Tryd.prog.stoodInHeld 41 = false := by kernel_rfl
  rw [run_eql_struct, show (10000 : Nat) = 9999 + 1 from rfl, run_equalIn_agg w 9999 41 _ _ hS hp]
  simp only [Program.fieldsOf, Tryd.underlying41]
  go_simp
  by_cases h1 : x1 = y1 <;> by_cases h2 : x2 = y2 <;> by_cases h3 : x3 = y3 <;> simp [h1, h2, h3]
theorem neV_run (x1 x2 x3 y1 y2 y3 : Int) (w : World) : Sem.run Tryd.prog (binOp .neq 41 (.agg #[.int .i64 x1, .int .i64 x2, .int .i64 x3]) (.agg #[.int .i64 y1, .int .i64 y2, .int .i64 y3])) w = .ok (.bool (!decide ((x1, x2, x3) = (y1, y2, y3)))) w := by
  have h := eqV_run x1 x2 x3 y1 y2 y3 w
  rw [run_eql_struct] at h
  rw [run_neq_struct]
  cases hr : (Op.equalIn 10000 41 (.agg #[.int .i64 x1, .int .i64 x2, .int .i64 x3]) (.agg #[.int .i64 y1, .int .i64 y2, .int .i64 y3])).run Tryd.prog w with
  | ok b w' =>
    rw [hr] at h
    simp only [Result.andThen_ok, Result.ok.injEq, Value.bool.injEq] at h ⊢
    obtain ⟨rfl, rfl⟩ := h
    exact ⟨rfl, rfl⟩
  | halt x w' => rw [hr] at h; simp [Result.andThen] at h
theorem gdV_run (op : BinOp) (a b : Operand) (xs ys : Array Value) (w : World) : Sem.run Tryd.prog (eqGuard op 41 a b (.agg xs) (.agg ys)) w = .ok () w :=
  run_eqGuard_agg w op 41 a b xs ys (by kernel_rfl)

theorem ext_get {la lb : List Vl} (h : la.length = lb.length) (hh : ∀ j, j < la.length → la[j]! = lb[j]!) : la = lb := by
  apply List.ext_getElem h
  intro j h1 h2
  have := hh j h1
  rwa [getElem!_pos la j h1, getElem!_pos lb j h2] at this

set_option maxHeartbeats 2000000 in
set_option maxRecDepth 100000 in
theorem same_call (la lb : List Vl) (va vb : Value) (w : World) (ha : Sl encV w va la) (hb : Sl encV w vb lb) : Calls Tryd.prog 13 #[va, vb] w fun e w' => e = .returned (.bool (decide (la = lb))) ∧ Gr w w' := by
  obtain ⟨p, cap, rfl, hl1, hl2, hl3⟩ := ha
  obtain ⟨p', cap', rfl, hm1, hm2, hm3⟩ := hb
  have HL := Lib.hid hl3
  have HM := Lib.hid hm3
  have hbig : la.length ≤ 9223372036854775807 := by unfold maxLen at hl2; omega
  clear hl3 hl2 hm3 hm2
  obtain ⟨B, hB⟩ : ∃ B, B = decide (la = lb) := ⟨_, rfl⟩
  rw [← hB]
  have HB := Lib.hid hB
  clear hB
  have ne1 := neV_run
  have gd1 := gdV_run
  by_cases hlen : la.length = lb.length
  · rw [← hlen]
    have HN := Lib.hid hlen
    obtain ⟨n, HN0⟩ : ∃ n, Hid (n = la.length) := ⟨_, rfl⟩
    rw [show la.length = n from HN0.out.symm] at hbig ⊢
    clear hlen
    go_enter Tryd.func13, Tryd.ntmps13
    go_wp2
    go_loopg [13] n (fun gk s13 wr => ∃ i : Nat, s13 = .int .i64 i ∧ i ≤ n ∧ n - i ≤ gk ∧ Gr w wr ∧ Hid (∀ j, j < i → la[j]! = lb[j]!))
    case atStart => exact ⟨0, rfl, Nat.zero_le _, by omega, Gr.refl _, fun j hj => absurd hj (Nat.not_lt_zero _)⟩
    case round =>
      obtain ⟨i, rfl, hi, hgk, hg, I⟩ := hrel
      have HG := Lib.hid hg
      by_cases hin : i < n
      · obtain ⟨g, o, rfl, hg1, hg2⟩ := HL.out (by have := HN0.out; omega)
        obtain ⟨g', o', rfl, hg1', hg2'⟩ := HM.out (by have := HN0.out; have := HN.out; omega)
        have hia : i < la.length := by have := HN0.out; omega
        have hib : i < lb.length := by have := HN0.out; have := HN.out; omega
        obtain ⟨c1, c2, c3⟩ := atV hg2 hia
        obtain ⟨c1', c2', c3'⟩ := atV hg2' hib
        have d1 : wr.cell? ⟨g, o + i * 3, none⟩ = _ := Bc HG.out.below hg1 c1
        have d2 : wr.cell? ⟨g, o + i * 3 + 1, none⟩ = _ := Bc HG.out.below hg1 c2
        have d3 : wr.cell? ⟨g, o + i * 3 + 2, none⟩ = _ := Bc HG.out.below hg1 c3
        have f1 : wr.cell? ⟨g', o' + i * 3, none⟩ = _ := Bc HG.out.below hg1' c1'
        have f2 : wr.cell? ⟨g', o' + i * 3 + 1, none⟩ = _ := Bc HG.out.below hg1' c2'
        have f3 : wr.cell? ⟨g', o' + i * 3 + 2, none⟩ = _ := Bc HG.out.below hg1' c3'
        have hgw : g < wr.heap.size := Bl HG.out.below hg1
        have hgw' : g' < wr.heap.size := Bl HG.out.below hg1'
        generalize hx : la[i]! = x at *
        generalize hy : lb[i]! = y at *
        have X := Lib.hid hx
        have Y := Lib.hid hy
        obtain ⟨x1, x2, x3⟩ := x
        obtain ⟨y1, y2, y3⟩ := y
        dsimp only at d1 d2 d3 f1 f2 f3
        clear hg2 c1 c2 c3 hx hg2' c1' c2' c3' hy hg hia hib
        by_cases hxy : ((x1, x2, x3) : Vl) = (y1, y2, y3)
        · simp only [Prod.mk.injEq] at hxy
          obtain ⟨rfl, rfl, rfl⟩ := hxy
          go_wp2_with fail
          go_region
          go_wp2
          go_roundg (n - (i + 1))
          case measure => omega
          case rel =>
            refine ⟨i + 1, by go_num, by omega, Nat.le_refl _, HG.out.drewN, (show Hid _ from fun j hj => ?_)⟩
            by_cases e : j = i
            · subst e; rw [X.out, Y.out]
            · exact I.out j (by omega)
        · have hd : decide (((x1, x2, x3) : Vl) = (y1, y2, y3)) = false := decide_eq_false hxy
          have hd2 : (decide (x1 = y1) && (decide (x2 = y2) && decide (x3 = y3))) = false := by rw [← Bool.decide_and, ← Bool.decide_and]; exact decide_eq_false fun e => hxy (by rw [e.1, e.2.1, e.2.2])
          have E := Lib.hid (show B = false by
            rw [HB.out]
            refine decide_eq_false fun e => hxy ?_
            rw [← X.out, ← Y.out, e])
          clear hxy
          go_wp2_with fail
          go_region
          go_wp2
          go_ret
          exact ⟨by rw [E.out]; rfl, HG.out.drewN⟩
      · have E := Lib.hid (show B = true by
          rw [HB.out]
          refine decide_eq_true (ext_get HN.out fun j hj => I.out j (by have := HN0.out; omega)))
        clear hg
        go_wp2
        go_ret
        exact ⟨by rw [E.out]; rfl, HG.out⟩
  · have E := Lib.hid (show B = false by rw [HB.out]; exact decide_eq_false fun e => hlen (by rw [e]))
    have hne : ((la.length : Int) == (lb.length : Int)) = false := beq_eq_false_iff_ne.2 (by omega)
    have hne2 : ((la.length : Int) != (lb.length : Int)) = true := by rw [bne, hne]; rfl
    go_enter Tryd.func13, Tryd.ntmps13
    go_wp2
    go_ret
    exact ⟨by rw [E.out]; rfl, (by repeat (first | with_reducible exact Gr.refl _ | with_reducible assumption | with_reducible apply Gr.alloc | with_reducible apply Gr.drewN | with_reducible apply Gr.drew | with_reducible apply Gr.grow | (with_reducible refine Gr.trans ?_ (by assumption))))⟩

theorem dropV_step {l : List Vl} {i : Nat} (h : i < l.length) (k : Int) : dropV (l.take (i + 1)) k = if l[i]!.1 = k then dropV (l.take i) k else dropV (l.take i) k ++ [l[i]!] := by
  rw [take_snoc l h]
  generalize l[i]! = y
  unfold dropV
  rw [List.filter_append]
  split
  · rename_i e; simp [e]
  · rename_i e; simp [e]

set_option maxHeartbeats 2000000 in
set_option maxRecDepth 100000 in
theorem rdrop_call (l : List Vl) (v : Value) (k : Int) (w : World) (hl : Sl encV w v l) (hlen : l.length ≤ 100000) :
    Calls Tryd.prog 55 #[v, .int .i64 k] w fun e w' => ∃ v', e = .returned v' ∧ w'.ownsRow w.heap.size 41 3 v' (dropV l k).length (flat encV (dropV l k)) ∧ RowKit.Below w.heap.size w w' := by
  obtain ⟨p, cap, rfl, hl1, hl2, hl3⟩ := hl
  have HL := Lib.hid hl3
  have hbig : l.length ≤ 9223372036854775807 := by omega
  clear hl3 hl2
  have O0 := Lib.hid (show (w.alloc (.cells #[] 41)).ownsRow w.heap.size 41 3 (.slice (some ⟨w.heap.size, 0, none⟩) 0 0) ([] : List Vl).length (flat encV []) from World.ownsRow_made _ #[] 0 (Nat.le_refl _) (Nat.zero_le _) (by simp))
  have B0 := Lib.hid (Ba (Below.refl _ w) (.cells #[] 41))
  go_enter Tryd.func55, Tryd.ntmps55
  go_wp2
  go_loopg [5, 11] l.length (fun gk s5 s11 wr => ∃ (i : Nat) (L : List Vl), s11 = .int .i64 i ∧ i ≤ l.length ∧ l.length - i ≤ gk ∧ RowKit.Below w.heap.size w wr ∧ wr.ownsRow w.heap.size 41 3 s5 L.length (flat encV L) ∧ L.length ≤ i ∧ Hid (L = dropV (l.take i) k))
  case atStart => exact ⟨0, [], rfl, Nat.zero_le _, by omega, B0.out, O0.out, Nat.le_refl _, rfl⟩
  case round =>
    obtain ⟨i, L, rfl, hi, hgk, hb, hown, hLl, I⟩ := hrel
    have HB := Lib.hid hb
    have HO := Lib.hid hown
    obtain ⟨pr, cr, rfl, _, _, _⟩ := row_val hown
    by_cases hin : i < l.length
    · obtain ⟨g, o, rfl, hg1, hg2⟩ := HL.out (by omega)
      obtain ⟨c1, c2, c3⟩ := atV hg2 hin
      have d1 : wr.cell? ⟨g, o + i * 3, none⟩ = _ := Bc HB.out hg1 c1
      have d2 : wr.cell? ⟨g, o + i * 3 + 1, none⟩ = _ := Bc HB.out hg1 c2
      have d3 : wr.cell? ⟨g, o + i * 3 + 2, none⟩ = _ := Bc HB.out hg1 c3
      have hgw : g < wr.heap.size := Bl HB.out hg1
      have ST := Lib.hid (dropV_step hin k)
      generalize hx : l[i]! = x at *
      obtain ⟨x1, x2, x3⟩ := x
      dsimp only at d1 d2 d3
      clear hg2 c1 c2 c3 hx hb hown
      have BA := Lib.hid (Ba (Ba (Below.refl _ wr) (.cells #[.int .i64 x1, .int .i64 x2, .int .i64 x3] 41)) (.cells #[.int .i64 x1, .int .i64 x2, .int .i64 x3] 41))
      by_cases hk : x1 = k
      · have hne : (x1 == k) = true := beq_iff_eq.2 hk
        have hne2 : (x1 != k) = false := by rw [bne, hne]; rfl
        have HK := Lib.hid hk
        clear hk
        go_wp2
        go_roundg (l.length - (i + 1))
        case measure => omega
        case rel => exact ⟨i + 1, L, by go_num, by omega, Nat.le_refl _, Ba HB.out _, row_keep HO.out (fun g hg => (Ba (Below.refl _ wr) (.cells #[.int .i64 x1, .int .i64 x2, .int .i64 x3] 41)).block g (row_lt HO.out hg)), by omega, (show Hid _ from by rw [ST.out, if_pos HK.out]; exact I.out)⟩
      · have hne : (x1 == k) = false := beq_eq_false_iff_ne.2 hk
        have hne2 : (x1 != k) = true := by rw [bne, hne]; rfl
        have HK := Lib.hid hk
        have O2 := Lib.hid (row_keep HO.out (fun g hg => BA.out.block g (row_lt HO.out hg)))
        have S2 := Lib.hid (sl_lit (enc := encV) (w := wr.alloc (.cells #[.int .i64 x1, .int .i64 x2, .int .i64 x3] 41)) (cs := #[.int .i64 x1, .int .i64 x2, .int .i64 x3]) (t := 41) (b := wr.heap.size + 1) [(x1, x2, x3)] (by simp) rfl (by unfold maxLen; simp))
        have LE := Lib.hid (show w.heap.size ≤ ((wr.alloc (.cells #[.int .i64 x1, .int .i64 x2, .int .i64 x3] 41)).alloc (.cells #[.int .i64 x1, .int .i64 x2, .int .i64 x3] 41)).heap.size from by have := HB.out.size; simp; omega)
        clear hk
        go_wp2_with (at_builtin; refine wpl_app apV rfl _ _ rfl w.heap.size (by rfl) (by rfl) O2.out rfl S2.out (by simp; omega) LE.out ?_; intro v1 w1 hown1 hgrow1 hnil1)
        have hb1 := grownB (Bt HB.out BA.out) O2.out hgrow1
        have eL : L.length + [((x1, x2, x3) : Vl)].length = (L ++ [(x1, x2, x3)]).length := by simp
        rw [eL] at hown1
        clear hgrow1 hnil1 eL
        go_roundg (l.length - (i + 1))
        case measure => omega
        case rel => exact ⟨i + 1, L ++ [(x1, x2, x3)], by go_num, by omega, Nat.le_refl _, hb1, hown1, by simp; omega, (show Hid _ from by show _ = _; rw [ST.out, if_neg HK.out, ← I.out])⟩
    · have hii : i = l.length := by omega
      have I2 := I.out
      rw [hii, List.take_length] at I2
      have E := Lib.hid I2
      clear I2 hb hown
      go_wp2
      go_ret
      exact ⟨_, rfl, by rw [← E.out]; exact HO.out, HB.out⟩
end Go.Proofs.YtknfmjjlfhfocaaDoor
