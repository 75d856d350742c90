/-
  The walk of HeapSorts.
-/
import Derived.Test.YtaceahjomhgccaaDoorHs10
namespace Go.Proofs.YtaceahjomhgccaaDoor
set_option linter.unusedSimpArgs false
set_option linter.unusedVariables false
open Go.RowKit Go.Sort Go.Lib Go.Shelf

theorem eqR_run (x1 x2 y1 y2 : Int) (w : World) : Sem.run Tryd.prog (binOp .eql 37 (.agg #[.int .i64 x1, .int .i64 x2]) (.agg #[.int .i64 y1, .int .i64 y2])) w = .ok (.bool (decide ((x1, x2) = (y1, y2)))) w := by
  have u3 := Tryd.underlying3
  have a3 := Tryd.isAgg3
  have z3 := Tryd.sizeOf3
  have hS : Tryd.prog.underlying 37 = some (.struct (Tryd.prog.fieldsOf 37)) := by kernel_rfl
  have hp : Tryd.prog.stoodInHeld 37 = false := by kernel_rfl
  rw [run_eql_struct, show (10000 : Nat) = 9999 + 1 from rfl, run_equalIn_agg w 9999 37 _ _ hS hp]
  simp only [Program.fieldsOf, Tryd.underlying37]
  go_simp
  by_cases h1 : x1 = y1 <;> by_cases h2 : x2 = y2 <;> simp [h1, h2]
theorem neR_run (x1 x2 y1 y2 : Int) (w : World) : Sem.run Tryd.prog (binOp .neq 37 (.agg #[.int .i64 x1, .int .i64 x2]) (.agg #[.int .i64 y1, .int .i64 y2])) w = .ok (.bool (!decide ((x1, x2) = (y1, y2)))) w := by
  have h := eqR_run x1 x2 y1 y2 w
  rw [run_eql_struct] at h
  rw [run_neq_struct]
  cases hr : (Op.equalIn 10000 37 (.agg #[.int .i64 x1, .int .i64 x2]) (.agg #[.int .i64 y1, .int .i64 y2])).run Tryd.prog w with
  | ok b w' =>
    rw [hr] at h
    simp only [Result.andThen_ok, Result.ok.injEq, Value.bool.injEq] at h ⊢
    obtain ⟨rfl, rfl⟩ := h
    exact ⟨rfl, rfl⟩
  | halt x w' => rw [hr] at h; simp [Result.andThen] at h
theorem gdR_run (op : BinOp) (a b : Operand) (xs ys : Array Value) (w : World) : Sem.run Tryd.prog (eqGuard op 37 a b (.agg xs) (.agg ys)) w = .ok () w :=
  run_eqGuard_agg w op 37 a b xs ys (by kernel_rfl)

set_option maxHeartbeats 4000000 in
set_option maxRecDepth 100000 in
theorem heapSorts_walk (l : List Hd) (v : Value) (W : World) (hv : Sl encH W v l) :
    Calls Tryd.prog 4 #[v] W fun e w' => e = .returned (.bool true) ∧ RowKit.Below W.heap.size W w' := by
  have HS := Lib.hid hv
  obtain ⟨p0, c0, rfl, v1, v2, v3⟩ := hv
  unfold maxLen at v2
  have HV := Lib.hid v3
  have AL := Lib.hid (alive_any W)
  clear v3
  by_cases h1 : l.length ≤ 300
  case neg =>
    have hz : (l.length : Int) > 300 := by omega
    go_enter Tryd.func4, Tryd.ntmps4
    go_wp2_with fail
    refine AL.out.mono ?_
    rintro e w1 ⟨rfl, hb1⟩
    go_wp2
    go_ret
    exact ⟨rfl, hb1⟩
  have hz : ¬ (l.length : Int) > 300 := by omega
  go_enter Tryd.func4, Tryd.ntmps4
  go_wp2_with fail
  refine AL.out.mono ?_
  rintro e w1 ⟨rfl, hb1⟩
  have B1 := Lib.hid (Bt hb1 (Ba (Below.refl _ w1) (.cells #[] 35)))
  have O1 := Lib.hid (show (w1.alloc (.cells #[] 35)).ownsRow W.heap.size 35 2 (.slice (some ⟨w1.heap.size, 0, none⟩) 0 0) 0 (flat encH ([] : List Hd)) from World.ownsRow_made _ #[] 0 hb1.size (Nat.zero_le _) (by simp))
  have S1 := Lib.hid (HS.out.below B1.out)
  clear hb1 AL
  go_wp2_with (at_builtin; refine wpl_app2 apH rfl _ _ rfl W.heap.size (by rfl) (by rfl) O1.out rfl S1.out (by simp; omega) B1.out.size ?_; intro v2' w2 hown2 hgrow2 _ _; have B2 := Lib.hid (grownB B1.out O1.out hgrow2); rw [List.nil_append] at hown2; have S2 := Lib.hid (row_sl lenH hown2 rfl); obtain ⟨p2, c2, rfl, i1, i2, _⟩ := row_val hown2; clear hown2 hgrow2)
  refine (hsort_call l _ _ S2.out (by omega)).mono ?_
  rintro e w3 ⟨v3, rfl, ho3, hb3⟩
  have B4 := Lib.hid (Bt (B2.out.trans (hb3.mono B2.out.size)) (Ba (Below.refl _ w3) (.cells #[] 37)))
  have S3 := Lib.hid ((S2.out.below hb3).below (Ba (Below.refl _ w3) (.cells #[] 37)))
  have Q3 := Lib.hid ((ho3.sl lenH).below (Ba (Below.refl _ w3) (.cells #[] 37)))
  have hlS := puts_len l
  clear ho3 hb3 S2 B2 O1 S1 B1
  unfold maxLen at i2
  go_wp2
  generalize w3.alloc (.cells #[] 37) = w4 at *
  have eq1 := eqH_run
  have ne1 := neH_run
  have gd1 := gdH_run
  go_loopw [26, 6] (fun i vm wr => ∃ (k : Nat), i = .int .i64 k ∧ k ≤ l.length ∧ Sl encH wr vm (putsL ltH [] (l.take k)) ∧ Hid (RowKit.Below w4.heap.size w4 wr)) (fun i _ _ => l.length - (intOf i).toNat)
  case atStart => exact ⟨0, rfl, Nat.zero_le _, by simpa [putsL] using Sl.nil (enc := encH) (w := w4) (some ⟨w3.heap.size, 0, none⟩) 0 (Nat.zero_le _), Lib.hid (Below.refl _ _)⟩
  case round =>
    obtain ⟨k, rfl, hk, hvm, HB⟩ := hrel
    generalize u6 = vm at *
    have HM := Lib.hid hvm
    clear hvm
    by_cases hkn : k < l.length
    · have hkz : (k : Int) < l.length := by omega
      obtain ⟨g0, o0, rfl, hg0, hc0⟩ := HV.out (by omega)
      obtain ⟨p3, cap3, e3, _, _, hX3⟩ := S3.out
      simp only [Value.slice.injEq] at e3
      obtain ⟨rfl, _, rfl⟩ := e3
      obtain ⟨g3, o3, rfl, hg3, hc3⟩ := hX3 (by omega)
      have HBW := Lib.hid (Bt B4.out HB.out)
      obtain ⟨d1, d2⟩ := atH (fun j u hu => Bc HBW.out hg0 (hc0 j u hu)) hkn
      have hg0w := Bl HBW.out hg0
      obtain ⟨f1, f2⟩ := atH (fun j u hu => Bc HB.out hg3 (hc3 j u hu)) hkn
      have hg3w := Bl HB.out hg3
      have TK := Lib.hid (putsL_take (lt := ltH) [] l k hkn)
      generalize l[k]! = x at *
      obtain ⟨x1, x2⟩ := x
      dsimp only at d1 d2 f1 f2
      have A5 := Lib.hid (Ba (Below.refl _ wr) (.cells #[.int .i64 x1, .int .i64 x2] 35))
      have X5 := Lib.hid (heap_alloc_new wr (.cells #[.int .i64 x1, .int .i64 x2] 35))
      have C5 := Lib.hid (rput_call (putsL ltH [] (l.take k)) vm x1 x2 _ (HM.out.below A5.out) (by rw [putsL_len, List.length_take]; simp; omega))
      have HF := Lib.hid (And.intro f1 f2)
      clear hc0 hc3 hX3 HM f1 f2
      go_wp2_with fail
      refine C5.out.mono ?_
      rintro e w5 ⟨vm5, rfl, ho5, hb5⟩
      have B5 := Lib.hid (Bt A5.out hb5)
      have S5 := Lib.hid (row_sl lenH ho5 rfl)
      obtain ⟨b1, b2, _⟩ := two_cells (blk_below X5.out hb5)
      have hxb := cell_lt b1
      obtain ⟨f1, f2⟩ := HF.out
      replace f1 := Bc B5.out hg3w f1
      replace f2 := Bc B5.out hg3w f2
      have hg5 := Bl B5.out hg3w
      have hd : decide (((x1, x2) : Hd) = (x1, x2)) = true := decide_eq_true rfl
      have BT := Lib.hid (Bt HB.out B5.out)
      clear ho5 hb5 C5
      generalize wr.heap.size = xb at *
      go_wp2_with fail
      go_region
      all_goals
        go_wp2
        go_roundw
        case rel => exact ⟨k + 1, by go_num, by omega, by rw [TK.out]; exact S5.out.below (Bd (Below.refl _ _)), Lib.hid (Bd BT.out)⟩
        case measure => simp [intOf]; omega
    · have hkz : ¬ (k : Int) < l.length := by omega
      obtain rfl : k = l.length := by omega
      rw [List.take_length] at HM
      obtain ⟨S, hSS⟩ : ∃ S, S = putsL ltH [] l := ⟨_, rfl⟩
      rw [← hSS] at HM Q3 hlS
      have Q4 := Lib.hid (Q3.out.below HB.out)
      have B5 := Lib.hid (Bt B4.out HB.out)
      obtain ⟨pm, cm, rfl, m1, m2, mX⟩ := HM.out
      obtain ⟨pq, cq, e4, m3, m4, qX⟩ := Q4.out
      subst e4
      unfold maxLen at m2 m4
      have MX := Lib.hid mX
      have QX := Lib.hid qX
      have eq2 := eqR_run
      have ne2 := neR_run
      have gd2 := gdR_run
      clear mX qX HM Q3 S3 hSS
      generalize l.length = n at *
      subst hlS
      generalize wr = w5 at *
      go_wp2_with fail
      go_loopw [52] (fun i wr => ∃ (k : Nat), i = .int .i64 k ∧ k ≤ S.length ∧ Hid (RowKit.Below w5.heap.size w5 wr)) (fun i _ => S.length - (intOf i).toNat)
      case atStart => exact ⟨0, rfl, Nat.zero_le _, Lib.hid (Below.refl _ _)⟩
      case round =>
        obtain ⟨k, rfl, hk, HB2⟩ := hrel
        by_cases hkn : k < S.length
        · have hkz : (k : Int) < S.length := by omega
          obtain ⟨g0, o0, rfl, hg0, hc0⟩ := MX.out (by omega)
          obtain ⟨g1, o1, rfl, hg1, hc1⟩ := QX.out (by omega)
          obtain ⟨d1, d2⟩ := atH (fun j u hu => Bc HB2.out hg0 (hc0 j u hu)) hkn
          obtain ⟨f1, f2⟩ := atH (fun j u hu => Bc HB2.out hg1 (hc1 j u hu)) hkn
          generalize S[k]! = x at *
          obtain ⟨x1, x2⟩ := x
          dsimp only at d1 d2 f1 f2
          have hd : decide (((x1, x2) : Hd) = (x1, x2)) = true := decide_eq_true rfl
          clear hc0 hc1
          go_wp2_with fail
          go_region
          all_goals
            go_wp2
            go_roundw
            case rel => exact ⟨k + 1, by go_num, by omega, Lib.hid (Bt HB2.out (Bd (Below.refl _ _)))⟩
            case measure => simp [intOf]; omega
        · have hkz : ¬ (k : Int) < S.length := by omega
          go_wp2
          go_ret
          exact ⟨rfl, Bt B5.out HB2.out⟩
end Go.Proofs.YtaceahjomhgccaaDoor
