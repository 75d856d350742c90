/-
  The reference's Row and Right.
-/
import Derived.Test.YtaehendpdfpibaaDoorVq
namespace Go.Proofs.YtaehendpdfpibaaDoor
set_option linter.unusedSimpArgs false
set_option linter.unusedVariables false
open Go.RowKit Go.Sort Go.Lib Go.Shelf

theorem ofKind_step {l : List Vl} {i : Nat} (h : i < l.length) (k : Nat) : ofKind k (l.take (i + 1)) = if l[i]!.1 = (k : Int) then ofKind k (l.take i) ++ [l[i]!] else ofKind k (l.take i) := by
  rw [take_snoc l h]
  generalize l[i]! = y
  unfold ofKind
  rw [List.filter_append]
  split
  · rename_i e; simp [e]
  · rename_i e; simp [e]

set_option maxHeartbeats 4000000 in
set_option maxRecDepth 100000 in
theorem rrow_call (l : List Vl) (v : Value) (w : World) (hl : Sl encV w v l) (hlen : l.length ≤ 100000) :
    Calls Tryd.prog 18 #[v] w fun e w' => (∃ v', e = .returned (.tuple #[v', .int .i64 (rowN l : Nat)]) ∧ Sl encV w' v' (rowL l)) ∧ RowKit.Below w.heap.size w w' := by
  obtain ⟨p, cap, rfl, hl1, hl2, hl3⟩ := hl
  have HL := Lib.hid hl3
  have hbig : l.length ≤ 9223372036854775807 := by omega
  clear hl3 hl2
  go_enter Tryd.func18, Tryd.ntmps18
  go_wp2
  go_loopg [14] l.length (fun gk s14 wr => ∃ i : Nat, s14 = .int .i64 i ∧ i ≤ l.length ∧ l.length - i ≤ gk ∧ Gr w wr ∧ Hid (∀ j, j < i → chk l[j]! = 0))
  case atStart => exact ⟨0, rfl, Nat.zero_le _, by omega, Gr.refl _, fun j hj => absurd hj (Nat.not_lt_zero _)⟩
  case round =>
    obtain ⟨i, rfl, hi, hgk, hg, I⟩ := hrel
    have HG := Lib.hid hg
    by_cases hin : i < l.length
    · obtain ⟨g, o, rfl, hg1, hg2⟩ := HL.out (by omega)
      obtain ⟨c1, c2, c3⟩ := atV hg2 hin
      have d1 : wr.cell? ⟨g, o + i * 3, none⟩ = some (.int .i64 l[i]!.1) := Bc HG.out.below hg1 c1
      have d2 : wr.cell? ⟨g, o + i * 3 + 1, none⟩ = some (.int .i64 l[i]!.2.1) := Bc HG.out.below hg1 c2
      have d3 : wr.cell? ⟨g, o + i * 3 + 2, none⟩ = some (.int .i64 l[i]!.2.2) := Bc HG.out.below hg1 c3
      have hgw : g < wr.heap.size := Bl HG.out.below hg1
      have HF := Lib.hid (fun (h : chk l[i]! ≠ 0) => show firstE l = chk l[i]! from firstE_at (i := i) (by rw [getElem!_pos l i hin, List.getElem?_eq_getElem hin]) h (fun y hy => by
        obtain ⟨j, hj, rfl⟩ := List.getElem_of_mem hy
        have hj' : j < i := by rw [List.length_take] at hj; omega
        have := I.out j hj'
        rw [getElem!_pos l j (by omega)] at this
        rwa [List.getElem_take]))
      generalize hx : l[i]! = x at *
      have X := Lib.hid hx
      obtain ⟨x1, x2, x3⟩ := x
      dsimp only at d1 d2 d3
      have FC : Hid (∀ W, Calls Tryd.prog 29 #[.agg #[.int .i64 x1, .int .i64 x2, .int .i64 x3]] W fun e w' => e = .returned (.int .i64 (chk (x1, x2, x3) : Nat)) ∧ Gr W w') := fun W => rcheck_any (x1, x2, x3) W
      clear hg2 c1 c2 c3 hx hg
      by_cases hk : chk (x1, x2, x3) = 0
      · rw [hk] at FC
        have HK := Lib.hid hk
        clear hk HF
        go_wp2_with (go_at_call 29; refine (FC.out _).mono ?_; rintro e w1 ⟨rfl, hg1⟩)
        go_roundg (l.length - (i + 1))
        case measure => omega
        case rel =>
          refine ⟨i + 1, by go_num, by omega, Nat.le_refl _, HG.out.trans ((Gr.alloc (Gr.refl wr) _).trans hg1), (show Hid _ from fun j hj => ?_)⟩
          by_cases e : j = i
          · subst e; rw [X.out]; exact HK.out
          · exact I.out j (by omega)
      · have hf := HF.out hk
        have hrn : rowN l = chk (x1, x2, x3) := by unfold rowN; rw [hf, if_pos hk]
        have E := Lib.hid (show rowN l = chk (x1, x2, x3) ∧ rowL l = [] from ⟨hrn, by unfold rowL; rw [hrn, if_neg hk]⟩)
        generalize chk (x1, x2, x3) = cn at *
        have hcn : ((cn : Int) != 0) = true := by simp; omega
        have hcn2 : ((cn : Int) == 0) = false := beq_eq_false_iff_ne.2 (by omega)
        clear hf hrn hk HF
        go_wp2_with (go_at_call 29; refine (FC.out _).mono ?_; rintro e w1 ⟨rfl, hg1⟩)
        go_ret2
        refine ⟨⟨.slice none 0 0, by rw [E.out.1]; rfl, by rw [E.out.2]; exact Sl.nil _ _ (Nat.zero_le _)⟩, ?_⟩
        exact (HG.out.trans ((Gr.alloc (Gr.refl wr) _).trans hg1)).below
    · have hf : firstE l = 0 := (firstE_zero l).2 fun x hx => by
        obtain ⟨j, hj, rfl⟩ := List.getElem_of_mem hx
        have := I.out j (by omega)
        rwa [getElem!_pos l j hj] at this
      have HF := Lib.hid hf
      have B0 := Lib.hid (Ba HG.out.below (.cells #[] 42))
      have O0 := Lib.hid (show (wr.alloc (.cells #[] 42)).ownsRow w.heap.size 42 3 (.slice (some ⟨wr.heap.size, 0, none⟩) 0 0) ([] : List Vl).length (flat encV []) from World.ownsRow_made _ #[] 0 HG.out.below.size (Nat.zero_le _) (by simp))
      clear hf hg I
      obtain ⟨M0, hM0⟩ : ∃ M0, M0 = wr := ⟨_, rfl⟩
      subst hM0
      go_wp2
      go_loopg [7, 8] 10 (fun gk s7 s8 wo => ∃ (k : Nat) (L : List Vl), s8 = .int .i64 k ∧ k ≤ 10 ∧ 10 - k ≤ gk ∧ RowKit.Below w.heap.size w wo ∧ wo.ownsRow w.heap.size 42 3 s7 L.length (flat encV L) ∧ L.length ≤ k ∧ Hid (L = rowTo k l) ∧ Hid (∀ j, j < k → (ofKind j l).length ≤ 1))
      case atStart => exact ⟨0, [], rfl, by omega, by omega, B0.out, O0.out, Nat.le_refl _, rfl, fun j hj => absurd hj (Nat.not_lt_zero _)⟩
      case round =>
        obtain ⟨k, L, rfl, hk, hgk2, hb, hown, hLl, I1, I2⟩ := hrel
        have HB := Lib.hid hb
        have HO := Lib.hid hown
        obtain ⟨pr, cr, rfl, _, _, _⟩ := row_val hown
        clear hb hown
        obtain ⟨M1, hM1⟩ : ∃ M1, M1 = wr := ⟨_, rfl⟩
        subst hM1
        by_cases hk10 : k < 10
        · have hme := Nat.lt_of_lt_of_le (show 10 - (k + 1) < 10 - k by omega) hgk2
          have hkw : ((k : Int) < 10) := by omega
          have B1 := Lib.hid HB.out
          go_wp2
          go_loopg [7, 9, 31] l.length (fun gk s7 s9 s31 wi => ∃ (i : Nat) (M N : List Vl), s31 = .int .i64 i ∧ s9 = .int .i64 M.length ∧ i ≤ l.length ∧ l.length - i ≤ gk ∧ RowKit.Below w.heap.size w wi ∧ wi.ownsRow w.heap.size 42 3 s7 N.length (flat encV N) ∧ M.length ≤ i ∧ Hid (N = L ++ M) ∧ Hid (M = ofKind k (l.take i)))
          case atStart => exact ⟨0, [], L, rfl, rfl, Nat.zero_le _, by omega, HB.out, HO.out, Nat.le_refl _, (show Hid _ from by show _ = _; rw [List.append_nil]), (show Hid _ from by show _ = _; simp [ofKind])⟩
          case round =>
            obtain ⟨i, M, N, rfl, rfl, hi, hgk3, hb, hown, hMl, NE, I3⟩ := hrel
            have HBi := Lib.hid hb
            have HOi := Lib.hid hown
            obtain ⟨pi, ci, ev, _, _, _⟩ := row_val hown
            subst ev
            obtain ⟨m, hm⟩ : ∃ m, m = M.length := ⟨_, rfl⟩
            rw [← hm] at hMl ⊢
            have HM := Lib.hid hm
            clear hm
            by_cases hin : i < l.length
            · obtain ⟨g, o, rfl, hg1, hg2⟩ := HL.out (by omega)
              obtain ⟨c1, c2, c3⟩ := atV hg2 hin
              have d1 : wr.cell? ⟨g, o + i * 3, none⟩ = _ := Bc HBi.out hg1 c1
              have d2 : wr.cell? ⟨g, o + i * 3 + 1, none⟩ = _ := Bc HBi.out hg1 c2
              have d3 : wr.cell? ⟨g, o + i * 3 + 2, none⟩ = _ := Bc HBi.out hg1 c3
              have hgw : g < wr.heap.size := Bl HBi.out hg1
              have ST := Lib.hid (ofKind_step hin k)
              generalize hx : l[i]! = x at *
              obtain ⟨x1, x2, x3⟩ := x
              dsimp only at d1 d2 d3
              clear hg2 c1 c2 c3 hx hb hown
              have BA := Lib.hid (Ba (Ba (Below.refl _ wr) (.cells #[.int .i64 x1, .int .i64 x2, .int .i64 x3] 42)) (.cells #[.int .i64 x1, .int .i64 x2, .int .i64 x3] 42))
              by_cases hk : x1 = (k : Int)
              · have hne : (x1 == (k : Int)) = true := beq_iff_eq.2 hk
                have HK := Lib.hid hk
                have O2 := Lib.hid (row_keep HOi.out (fun g hg => BA.out.block g (row_lt HOi.out hg)))
                have S2 := Lib.hid (sl_lit (enc := encV) (w := wr.alloc (.cells #[.int .i64 x1, .int .i64 x2, .int .i64 x3] 42)) (cs := #[.int .i64 x1, .int .i64 x2, .int .i64 x3]) (t := 42) (b := wr.heap.size + 1) [(x1, x2, x3)] (by simp) rfl (by unfold maxLen; simp))
                have LE := Lib.hid (show w.heap.size ≤ ((wr.alloc (.cells #[.int .i64 x1, .int .i64 x2, .int .i64 x3] 42)).alloc (.cells #[.int .i64 x1, .int .i64 x2, .int .i64 x3] 42)).heap.size from by have := HBi.out.size; simp; omega)
                have LN := Lib.hid (show N.length + [((x1, x2, x3) : Vl)].length ≤ 1000000 from by have := HM.out; have h := congrArg List.length NE.out; rw [List.length_append] at h; simp; omega)
                clear hk
                go_wp2_with (at_builtin; refine wpl_app apV rfl _ _ rfl w.heap.size (by rfl) (by rfl) O2.out (by first | rfl | simp) S2.out LN.out LE.out ?_; intro v1 w1 hown1 hgrow1 hnil1)
                have hb1 := grownB (Bt HBi.out BA.out) O2.out hgrow1
                have eL : N.length + [((x1, x2, x3) : Vl)].length = (N ++ [(x1, x2, x3)]).length := by simp
                rw [eL] at hown1
                clear hgrow1 hnil1 eL
                go_roundg (l.length - (i + 1))
                case measure => omega
                case rel => exact ⟨i + 1, M ++ [(x1, x2, x3)], N ++ [(x1, x2, x3)], by go_num, by have := HM.out; rw [List.length_append]; subst this; go_num, by omega, Nat.le_refl _, hb1, hown1, by have := HM.out; simp; omega, (show Hid _ from by show _ = _; rw [NE.out, List.append_assoc]), (show Hid _ from by show _ = _; rw [ST.out, if_pos HK.out, ← I3.out])⟩
              · have hne : (x1 == (k : Int)) = false := beq_eq_false_iff_ne.2 hk
                have HK := Lib.hid hk
                clear hk
                go_wp2
                go_roundg (l.length - (i + 1))
                case measure => omega
                case rel => exact ⟨i + 1, M, N, by go_num, by rw [HM.out], by omega, Nat.le_refl _, Ba HBi.out _, row_keep HOi.out (fun g hg => (Ba (Below.refl _ wr) (.cells #[.int .i64 x1, .int .i64 x2, .int .i64 x3] 42)).block g (row_lt HOi.out hg)), by have := HM.out; omega, NE, (show Hid _ from by show _ = _; rw [ST.out, if_neg HK.out]; exact I3.out)⟩
            · have hii : i = l.length := by omega
              have hM : M = ofKind k l := by have := I3.out; rwa [hii, List.take_length] at this
              have HMK := Lib.hid hM
              clear hM hb hown I3
              by_cases hm1 : 1 < m
              · have hm1i : (1 : Int) < (m : Int) := by omega
                have hdup : dupB l = true := by
                  unfold dupB
                  rw [List.any_eq_true]
                  exact ⟨k, List.mem_range.2 hk10, decide_eq_true (by rw [← HMK.out, ← HM.out]; exact hm1)⟩
                have hn : rowN l = 4 := by unfold rowN; rw [HF.out, hdup]; rfl
                have E := Lib.hid (show rowN l = 4 ∧ rowL l = [] from ⟨hn, by unfold rowL; rw [hn]; rfl⟩)
                clear hdup hn
                go_wp2
                go_ret2
                exact ⟨⟨.slice none 0 0, by rw [E.out.1]; rfl, by rw [E.out.2]; exact Sl.nil _ _ (Nat.zero_le _)⟩, HBi.out⟩
              · have hm1i : ¬ (1 : Int) < (m : Int) := by omega
                go_wp2
                go_roundg (10 - (k + 1))
                case measure => exact hme
                case rel => exact ⟨k + 1, N, by go_num, by omega, Nat.le_refl _, HBi.out, HOi.out, by have := HM.out; have h := congrArg List.length NE.out; rw [List.length_append] at h; omega, (show Hid _ from by show _ = _; rw [rowTo_succ, ← I1.out, ← HMK.out]; exact NE.out), (show Hid _ from fun j hj => by
                  by_cases e : j = k
                  · subst e; rw [← HMK.out, ← HM.out]; omega
                  · exact I2.out j (by omega))⟩
        · have hk10' : k = 10 := by omega
          have hdup : dupB l = false := (dup_no l).2 fun j hj => I2.out j (by omega)
          have hn : rowN l = 0 := by unfold rowN; rw [HF.out, hdup]; rfl
          have E := Lib.hid (show rowN l = 0 ∧ rowL l = L from ⟨hn, by unfold rowL; rw [if_pos hn, I1.out, hk10']⟩)
          have hkw : ¬ ((k : Int) < 10) := by omega
          clear hdup hn
          go_wp2
          go_ret2
          exact ⟨⟨_, by rw [E.out.1]; rfl, by rw [E.out.2]; exact row_sl lenV HO.out rfl⟩, HB.out⟩

set_option maxHeartbeats 1000000 in
theorem rright_call (l : List Vl) (v : Value) (w : World) (hl : Sl encV w v l) (hlen : l.length ≤ 100000) : Calls Tryd.prog 10 #[v] w fun e w' => e = .returned (.bool (rightB l)) ∧ RowKit.Below w.heap.size w w' := by
  rw [← rightB_ref]
  have HL := Lib.hid hl
  have FR := Lib.hid (rrow_call l v w hl hlen)
  generalize hn : rowN l = n at *
  have HN := Lib.hid hn
  clear hl hn
  by_cases h0 : n = 0
  · subst h0
    generalize hq : decide (l = rowL l) = q
    have HQ := Lib.hid hq
    clear hq
    go_enter Tryd.func10, Tryd.ntmps10
    go_wp2_with fail
    refine FR.out.mono ?_
    rintro e w1 ⟨⟨v1, rfl, hs1⟩, hb1⟩
    have FS := Lib.hid (same_call l (rowL l) v v1 w1 (HL.out.below hb1) hs1)
    rw [HQ.out] at FS
    obtain ⟨p, cap, rfl, _, _, _⟩ := hs1
    go_wp2_with fail
    refine FS.out.mono ?_
    rintro e w2 ⟨rfl, hg2⟩
    go_wp2
    go_ret
    exact ⟨by simp, Bt hb1 hg2.below⟩
  · have hne : ((n : Int) == 0) = false := beq_eq_false_iff_ne.2 (by omega)
    have hne2 : (n == 0) = false := beq_eq_false_iff_ne.2 h0
    rw [hne2, Bool.false_and]
    clear h0
    go_enter Tryd.func10, Tryd.ntmps10
    go_wp2_with fail
    refine FR.out.mono ?_
    rintro e w1 ⟨⟨v1, rfl, hs1⟩, hb1⟩
    obtain ⟨p, cap, rfl, _, _, _⟩ := hs1
    go_wp2
    go_ret
    exact ⟨rfl, hb1⟩
end Go.Proofs.YtaehendpdfpibaaDoor
