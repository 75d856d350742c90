import Derived.Test.YtahichjiphjapaaGreatDoorZ55
import Derived.Test.YtahichjiphjapaaGreatDoorZ20

/-
  The walk of filled.
-/
namespace Go.Proofs.YtahichjiphjapaaGreatDoor
set_option linter.unusedSimpArgs false
set_option linter.unusedVariables false
open Go.RowKit Go.Sort Go.Lib Go.Shelf

theorem hd13_q {i : Nat} (h : i < 61) : ∃ q : Int, ((i : Int) * 7).tmod 61 = q ∧ hd13 i = (q, 1) ∧ 0 ≤ q ∧ q ≤ 60 := by
  refine ⟨((i * 7 % 61 : Nat) : Int), ?_, rfl, by omega, by omega⟩
  rw [Int.tmod_eq_emod_of_nonneg (by omega)]
  omega
theorem fill_no {l : List Bx4} {i : Nat} (hi : i < l.length) (h : errB l[i]! ≠ 0) : fillB l = false := by
  cases hf : fillB l with
  | false => rfl
  | true => exact absurd ((fillB_iff.1 hf).2 i hi) h
theorem fill_big {l : List Bx4} (h : ¬ l.length ≤ 60) : fillB l = false := by
  unfold fillB
  rw [decide_eq_false h, Bool.false_and]
theorem errV_some {eR eF : TypeId × Value} {b : Bx4} (h : errB b ≠ 0) : ∃ t u, errV eR eF b = .iface t u := by
  rcases err_cases eR eF b with ⟨e, _⟩ | ⟨_, e⟩ | ⟨_, e⟩
  · exact absurd e h
  · exact ⟨_, _, e⟩
  · exact ⟨_, _, e⟩
/-- What filled answers: the tree and the boxes, if all can be put. -/
def FillR (l : List Bx4) (e : Ending) (w' : World) : Prop := ∃ pt vm, e = .returned (.tuple #[.pointer (some ⟨pt, 0, none⟩), vm, .bool (fillB l)]) ∧ (fillB l = true → (∃ M, TrAt w' M pt (fl l l.length)) ∧ Sl encBx w' vm (fl l l.length))
section
variable {eR eN eF : TypeId × Value}
set_option maxHeartbeats 4000000 in
set_option maxRecDepth 100000 in
theorem filled_call (l : List Bx4) (v : Value) (W : World) (hv : Sl encX W v l) (hE : Er3 W eR eN eF) :
    Calls Tryz.prog 11 #[v] W fun e w' => FillR l e w' ∧ RowKit.Below W.heap.size W w' := by
  obtain ⟨p0, c0, rfl, v1, v2, v3⟩ := hv
  unfold maxLen at v2
  have HV := Lib.hid v3
  have HE := Lib.hid hE
  have hel := cell_lt hE.eN
  have NS := Lib.hid (newT_call W)
  clear v3 hE
  by_cases h1 : l.length ≤ 60
  case neg =>
    have hz : (l.length : Int) > 60 := by omega
    have HF := Lib.hid (fill_big h1)
    go_enter Tryz.func11, Tryz.ntmps11
    go_wp2_with fail
    refine NS.out.mono ?_
    rintro e w2 ⟨pt, rfl, hp2, hb2⟩
    have hs2 := hb2.size
    go_wp2
    exact bodyPost_ret (v := .tuple #[.pointer (some ⟨pt, 0, none⟩), .slice (some ⟨w2.heap.size, 0, none⟩) 0 0, .bool false]) (by simp [results, Tryz.results11, go_sem, *]) rfl ⟨⟨_, _, by rw [HF.out], fun h => by rw [HF.out] at h; cases h⟩, (by repeat (first | with_reducible exact Below.refl _ _ | with_reducible assumption | with_reducible apply Ba | with_reducible apply Bd | with_reducible apply Bn | with_reducible apply Bg | (with_reducible refine Bs ?_ (by first | (simp; done) | (simp; omega)) _) | (with_reducible refine Bt ?_ (by assumption)) | (with_reducible refine Bt ?_ (Gr.below (by assumption)))))⟩
  have hz : ¬ (l.length : Int) > 60 := by omega
  go_enter Tryz.func11, Tryz.ntmps11
  go_wp2_with fail
  refine NS.out.mono ?_
  rintro e w2 ⟨pt, rfl, hp2, hb2⟩
  have O2 := Lib.hid ((OO.new (P := TrB pt []) (Z := NoZ) (base := W.heap.size) hp2 (Nat.le_refl _) hb2.size (fun b e => e.elim)))
  have B2 := Lib.hid hb2
  clear hp2 hb2 NS
  have R2 := Lib.hid (show (w2.alloc (.cells #[] 47)).ownsRow W.heap.size 47 6 (.slice (some ⟨w2.heap.size, 0, none⟩) 0 0) 0 [] from World.ownsRow_made w2 #[] 0 B2.out.size (Nat.zero_le _) (by simp))
  have BA := Lib.hid (Ba B2.out (.cells #[] 47))
  have OA := Lib.hid (show OO (TrB pt (fl l 0)) (fun b => (Value.slice (some ⟨w2.heap.size, 0, none⟩) 0 0).ownBlock = some b) W.heap.size (w2.alloc (.cells #[] 47)) from O2.out.turn (fr_tr pt []) (Tch.of (Ba (Below.refl _ w2) (.cells #[] 47))) (fun b e => by
    simp only [Value.ownBlock, Option.some.injEq] at e
    exact ⟨.inr (.inr (by omega)), by simp; omega⟩))
  clear O2
  go_wp2
  go_loopw [6, 19] (fun vm u wr => ∃ i : Nat, u = .int .i64 i ∧ i ≤ l.length ∧ (∀ j, j < i → errB l[j]! = 0) ∧ OO (TrB pt (fl l i)) (fun b => vm.ownBlock = some b) W.heap.size wr ∧ wr.ownsRow W.heap.size 47 6 vm (fl l i).length (flat encBx (fl l i)) ∧ RowKit.Below W.heap.size W wr) (fun _ u _ => l.length - (intOf u).toNat)
  case atStart => exact ⟨0, rfl, Nat.zero_le _, fun j hj => absurd hj (Nat.not_lt_zero j), OA.out, R2.out, BA.out⟩
  case round =>
    clear OA R2 BA B2
    obtain ⟨i, rfl, hi, hall, hO, hrow, hb⟩ := hrel
    have HO := Lib.hid hO
    have HB := Lib.hid hb
    have HA := Lib.hid hall
    have HR := Lib.hid hrow
    clear hO hb hall hrow
    by_cases hlt : i < l.length
    · obtain ⟨g, o, rfl, hg1, hcs⟩ := HV.out (by omega)
      obtain ⟨c1, c2, c3, c4⟩ := atX hcs hlt
      replace c1 := Bc HB.out hg1 c1
      replace c2 := Bc HB.out hg1 c2
      replace c3 := Bc HB.out hg1 c3
      replace c4 := Bc HB.out hg1 c4
      obtain ⟨q, hq, hhd, hq0, hq1⟩ := hd13_q (i := i) (by omega)
      have hx := hd_at q hq0 (by omega)
      have HP := Lib.hid (fl_put (l := l) (i := i) (by omega))
      have HN := Lib.hid (fill_no (l := l) hlt)
      have HS := Lib.hid (fl_succ l i)
      have HA2 : Hid (errB l[i]! = 0 → ∀ j, j < i + 1 → errB l[j]! = 0) := fun h j hj => by
        rcases Nat.lt_or_ge j i with c | c
        · exact HA.out j c
        · obtain rfl : j = i := by omega
          exact h
      rw [hhd] at HP HS
      clear hhd
      generalize l[i]! = x at *
      obtain ⟨x1, x2, x3, x4⟩ := x
      dsimp only at c1 c2 c3 c4
      obtain ⟨w4, hw4⟩ : ∃ w4, w4 = (wr.alloc (.cells #[.int .i64 x1, .int .i64 x2, .int .i64 x3, .int .i64 x4] 45)).alloc (.cells #[.int .i64 q, .int .i64 1] 42) := ⟨_, rfl⟩
      have bA : RowKit.Below wr.heap.size wr w4 := by rw [hw4]; exact Ba (Ba (Below.refl _ wr) _) _
      have hs4 : w4.heap.size = wr.heap.size + 2 := by rw [hw4]; simp
      obtain ⟨k1, k2⟩ := three_blk (w := wr) (o1 := .cells #[.int .i64 x1, .int .i64 x2, .int .i64 x3, .int .i64 x4] 45) (o2 := .cells #[.int .i64 q, .int .i64 1] 42) (w3 := w4) (by rw [hw4]; exact Below.refl _ _)
      have HB4 := Lib.hid (Bt HB.out bA)
      have HR4 := Lib.hid (row_below HR.out bA)
      have HO4 := Lib.hid (show OO (TrB pt (fl l i)) (fun b => u6.ownBlock = some b ∨ b = wr.heap.size ∨ b = wr.heap.size + 1) W.heap.size w4 from HO.out.turn (fr_tr pt _) (Tch.of bA) (fun b e => by
        rcases e with e | e | e
        · exact ⟨.inl e, Nat.lt_of_lt_of_le (row_lt HR.out e) bA.size⟩
        · exact ⟨.inr (.inr (by omega)), by omega⟩
        · exact ⟨.inr (.inr (by omega)), by omega⟩))
      obtain ⟨hb0, hhb0⟩ : ∃ hb0, hb0 = wr.heap.size := ⟨_, rfl⟩
      rw [← hhb0] at k1 k2 HO4 hs4
      have HW4 := Lib.hid (And.intro hw4 hhb0)
      clear hcs bA HO HB HR hw4 hhb0
      obtain ⟨d1, d2, _, _⟩ := two_cells k2
      obtain ⟨t1, t2, t3, t4⟩ := cells4 k1
      have K1 := Lib.hid k1
      have K2 := Lib.hid k2
      by_cases he : errB (x1, x2, x3, x4) = 0
      · have AP := Lib.hid (HO4.out.ask (asks_putT (base := W.heap.size) q 1 x1 x2 x3 x4 hx he (by rw [fl_len]; omega) (HE.out.below HB4.out) hel))
        rw [HP.out] at AP
        have HA3 := Lib.hid (HA2.out he)
        clear he HA2 HA HN HO4 HP k1 k2 d1 d2 t1 t2 t3 t4 hx
        go_wp2_with fail
        rw [← HW4.out.1, ← HW4.out.2]
        refine AP.out.mono ?_
        rintro e w5 ⟨rfl, hO5, ht5⟩
        have R5 := Lib.hid (row_keep HR4.out (fun b e => ht5.block b (row_lt HR4.out e) (fun z => z.2 (.inl e))))
        have k1 := (ht5.block hb0 (by omega) (fun z => z.2 (.inr (.inl rfl)))).trans K1.out
        have k2 := (ht5.block (hb0 + 1) (by omega) (fun z => z.2 (.inr (.inr rfl)))).trans K2.out
        obtain ⟨d1, d2, _, _⟩ := two_cells k2
        obtain ⟨t1, t2, t3, t4⟩ := cells4 k1
        have HB5 := Lib.hid (HB4.out.trans (OO.tch ht5 HB4.out.size))
        have HO5 := Lib.hid hO5
        have bX := Ba (Below.refl _ w5) (.cells #[.int .i64 q, .int .i64 1, .int .i64 x1, .int .i64 x2, .int .i64 x3, .int .i64 x4] 47)
        have R6 := Lib.hid (row_below R5.out bX)
        have B6 := Lib.hid (Bt HB5.out bX)
        have L6 := Lib.hid (sl_lit (enc := encBx) (w := w5) (cs := #[.int .i64 q, .int .i64 1, .int .i64 x1, .int .i64 x2, .int .i64 x3, .int .i64 x4]) (t := 47) (b := w5.heap.size) [((q, 1), x1, x2, x3, x4)] rfl rfl (by unfold maxLen; simp))
        have hlb := cell_lt t1
        have hld := cell_lt d1
        have hle : (fl l i).length ≤ 60 := by rw [fl_len]; omega
        clear hO5 ht5 AP k1 k2 R5 HR4 HB4 HW4 K1 K2 bX hs4
        go_wp2_with (at_builtin; go_loud (refine wpl_app2 apB rfl _ _ rfl W.heap.size (by rfl) (by rfl) R6.out rfl L6.out (by simp; omega) B6.out.size ?_); intro v7 w7 hown7 hgrow7 hat7 hnil7; have O7 := Lib.hid hown7; have B7 := Lib.hid (grownB B6.out R6.out hgrow7); have G7 := Lib.hid (And.intro hgrow7 hat7); clear hown7 hgrow7 hat7 hnil7)
        go_roundw
        case measure => simp only [intOf]; omega
        case rel =>
          have O8 := O7.out
          rw [← HS.out] at O8
          have T7 := (Tch.of (M := fun b => u6.ownBlock = some b ∨ b = hb0 ∨ b = hb0 + 1) (Ba (Below.refl _ w5) (.cells #[.int .i64 q, .int .i64 1, .int .i64 x1, .int .i64 x2, .int .i64 x3, .int .i64 x4] 47))).more (Tch.grown G7.out.1 (fun b e => .inl e))
          refine ⟨i + 1, by go_num, by omega, HA3.out, HO5.out.turn (fr_tr pt _) T7 (fun b e => ⟨?_, row_lt O8 e⟩), O8, B7.out⟩
          rcases G7.out.2 with h | h
          · exact .inl (.inl (h ▸ e))
          · rw [h] at e
            simp only [Option.some.injEq] at e
            refine .inr (.inr ?_)
            rw [← e]
            simp
      · obtain ⟨t, u, e1⟩ := errV_some (eR := eR) (eF := eF) he
        have PN := Lib.hid (HO4.out.read (fun M h => putT_no h q 1 x1 x2 x3 x4 he (HE.out.below HB4.out)))
        rw [e1] at PN
        have HF := Lib.hid (HN.out he)
        clear e1 he HA2 HA HN HO4 HP k1 k2 d1 d2 t1 t2 t3 t4 hx
        go_wp2_with fail
        rw [← HW4.out.1, ← HW4.out.2]
        refine PN.out.mono ?_
        rintro e w5 ⟨rfl, hb5⟩
        have B5 := Bt HB4.out hb5
        go_wp2
        exact bodyPost_ret (v := .tuple #[.pointer (some ⟨pt, 0, none⟩), u6, .bool false]) (by simp [results, Tryz.results11, go_sem, *]) rfl ⟨⟨_, _, by rw [HF.out], fun h => by rw [HF.out] at h; cases h⟩, B5⟩
    · have hin : i = l.length := by omega
      subst hin
      have HF := Lib.hid (fillB_iff.2 ⟨h1, HA.out⟩)
      clear HA hlt
      go_wp2
      exact bodyPost_ret (v := .tuple #[.pointer (some ⟨pt, 0, none⟩), u6, .bool true]) (by simp [results, Tryz.results11, go_sem, *]) rfl ⟨⟨_, _, by rw [HF.out], fun _ => ⟨⟨_, HO.out.choose_spec.1⟩, row_sl lenBx HR.out rfl⟩⟩, HB.out⟩
end
end Go.Proofs.YtahichjiphjapaaGreatDoor

/-
  The walk of alive.
-/
namespace Go.Proofs.YtahichjiphjapaaGreatDoor
set_option linter.unusedSimpArgs false
set_option linter.unusedVariables false
open Go.RowKit Go.Sort Go.Lib Go.Shelf

abbrev L013 : List Bx4 := [(0, 0, 0, 0), (3, 4, 3, 4), (9, 0, 9, 0)]
theorem l0_fill : fillB L013 = true := by decide +kernel
theorem l0_rad : (radL (fl L013 3) (0, 0) 5).length = 2 := by decide +kernel
theorem l0_near : (allN (fl L013 3) (8, 0)).take 1 = [(14, 1)] := by decide +kernel
section
variable {eR eN eF : TypeId × Value}
set_option maxHeartbeats 4000000 in
set_option maxRecDepth 100000 in
theorem alive_any (w : World) (hE : Er3 w eR eN eF) : Calls Tryz.prog 10 #[] w fun e w' => e = .returned (.bool true) ∧ RowKit.Below w.heap.size w w' := by
  obtain ⟨w1, hw1⟩ : ∃ w1, w1 = w.alloc (.cells #[.int .i64 0, .int .i64 0, .int .i64 0, .int .i64 0, .int .i64 3, .int .i64 4, .int .i64 3, .int .i64 4, .int .i64 9, .int .i64 0, .int .i64 9, .int .i64 0] 45) := ⟨_, rfl⟩
  have hb1 : RowKit.Below w.heap.size w w1 := by rw [hw1]; exact Ba (Below.refl _ w) _
  have hs : Sl encX w1 (.slice (some ⟨w.heap.size, 0, none⟩) 3 3) L013 := by
    rw [hw1]
    exact sl_lit (enc := encX) (w := w) (cs := #[.int .i64 0, .int .i64 0, .int .i64 0, .int .i64 0, .int .i64 3, .int .i64 4, .int .i64 3, .int .i64 4, .int .i64 9, .int .i64 0, .int .i64 9, .int .i64 0]) (t := 45) (b := w.heap.size) L013 rfl rfl (by unfold maxLen; simp)
  have FI := Lib.hid (filled_call L013 _ w1 hs (hE.below hb1))
  have B1 := Lib.hid hb1
  have HW := Lib.hid hw1
  clear hb1 hs hw1 hE
  go_enter Tryz.func10, Tryz.ntmps10
  go_wp2_with fail
  rw [← HW.out]
  refine FI.out.mono ?_
  rintro e w2 ⟨⟨pt, vm, rfl, hR⟩, hb2⟩
  obtain ⟨⟨M, hT⟩, -⟩ := hR l0_fill
  rw [l0_fill]
  have hT' : TrAt w2 M pt (fl L013 3) := hT
  have B2 := Lib.hid (Bt B1.out hb2)
  have RA := Lib.hid (nRadius_do 0 0 5 hT' (by decide) (by rw [fl_len]; omega))
  have NE := Lib.hid (fun w' (hb : RowKit.Below w2.heap.size w2 w') => nNearest_do 8 0 1 ((fr_tr pt _).below hT' hb) (by decide) (by rw [fl_len]; omega))
  rw [show (1 : Int).toNat = 1 from rfl] at NE
  simp only [l0_near] at NE
  clear hR hT hT' hb2 FI
  go_wp2_with fail
  refine RA.out.mono ?_
  rintro e w3 ⟨v3, rfl, hs3, hb3⟩
  obtain ⟨p3, c3, rfl, _, _, _⟩ := hs3
  rw [l0_rad]
  have B3 := Lib.hid (Bt B2.out hb3)
  have N3 := Lib.hid (NE.out w3 hb3)
  clear hb3 RA NE
  go_wp2_with fail
  refine N3.out.mono ?_
  rintro e w4 ⟨v4, rfl, hs4, hb4⟩
  obtain ⟨p4, c4, rfl, _, _, h4⟩ := hs4
  obtain ⟨g4, o4, rfl, hg4, hc4⟩ := h4 (by simp)
  have d1 : w4.cell? ⟨g4, o4, none⟩ = some (.int .i64 14) := hc4 0 _ rfl
  have d2 : w4.cell? ⟨g4, o4 + 1, none⟩ = some (.int .i64 1) := hc4 1 _ rfl
  have B4 := Lib.hid (Bt B3.out hb4)
  clear hb4 N3 h4 hc4
  go_wp2
  go_ret
  exact ⟨by simp, B4.out⟩
end
end Go.Proofs.YtahichjiphjapaaGreatDoor
