import Derived.Test.YtaehendpdfpibaaGreatDoorZ23
import Derived.Test.YtaehendpdfpibaaGreatDoorZ28
import Derived.Test.YtaehendpdfpibaaGreatDoorZ8

/-
  The reference's Row and Put: what they answer lies in a row of the call's own (written by mkvw.py).
-/
namespace Go.Proofs.YtaehendpdfpibaaGreatDoor
set_option linter.unusedSimpArgs false
set_option linter.unusedVariables false
open Go.RowKit Go.Sort Go.Lib Go.Shelf

set_option maxHeartbeats 4000000 in
set_option maxRecDepth 100000 in
theorem rrow_own (l : List Vl) (v : Value) (w : World) (hl : Sl encV w v l) (hlen : l.length ≤ 100000) :
    Calls Tryz.prog 134 #[v] w fun e w' => (∃ v', e = .returned (.tuple #[v', .int .i64 (rowN l : Nat)]) ∧ w'.ownsRow w.heap.size 34 3 v' (rowL l).length (flat encV (rowL l))) ∧ RowKit.Below w.heap.size w w' := by
  obtain ⟨p, cap, rfl, hl1, hl2, hl3⟩ := hl
  have HL := Lib.hid hl3
  have hbig : l.length ≤ 9223372036854775807 := by omega
  clear hl3 hl2
  go_enter Tryz.func134, Tryz.ntmps134
  go_wp2
  go_loopg [14] l.length (fun gk s14 wr => ∃ i : Nat, s14 = .int .i64 i ∧ i ≤ l.length ∧ l.length - i ≤ gk ∧ Gr w wr ∧ Hid (∀ j, j < i → chk l[j]! = 0))
  case atStart => exact ⟨0, rfl, Nat.zero_le _, by omega, Gr.refl _, fun j hj => absurd hj (Nat.not_lt_zero _)⟩
  case round =>
    obtain ⟨i, rfl, hi, hgk, hg, I⟩ := hrel
    have HG := Lib.hid hg
    by_cases hin : i < l.length
    · obtain ⟨g, o, rfl, hg1, hg2⟩ := HL.out (by omega)
      obtain ⟨c1, c2, c3⟩ := atV hg2 hin
      have d1 : wr.cell? ⟨g, o + i * 3, none⟩ = some (.int .i64 l[i]!.1) := Bc HG.out.below hg1 c1
      have d2 : wr.cell? ⟨g, o + i * 3 + 1, none⟩ = some (.int .i64 l[i]!.2.1) := Bc HG.out.below hg1 c2
      have d3 : wr.cell? ⟨g, o + i * 3 + 2, none⟩ = some (.int .i64 l[i]!.2.2) := Bc HG.out.below hg1 c3
      have hgw : g < wr.heap.size := Bl HG.out.below hg1
      have HF := Lib.hid (fun (h : chk l[i]! ≠ 0) => show firstE l = chk l[i]! from firstE_at (i := i) (by rw [getElem!_pos l i hin, List.getElem?_eq_getElem hin]) h (fun y hy => by
        obtain ⟨j, hj, rfl⟩ := List.getElem_of_mem hy
        have hj' : j < i := by rw [List.length_take] at hj; omega
        have := I.out j hj'
        rw [getElem!_pos l j (by omega)] at this
        rwa [List.getElem_take]))
      generalize hx : l[i]! = x at *
      have X := Lib.hid hx
      obtain ⟨x1, x2, x3⟩ := x
      dsimp only at d1 d2 d3
      have FC : Hid (∀ W, Calls Tryz.prog 88 #[.agg #[.int .i64 x1, .int .i64 x2, .int .i64 x3]] W fun e w' => e = .returned (.int .i64 (chk (x1, x2, x3) : Nat)) ∧ Gr W w') := fun W => rcheck_any (x1, x2, x3) W
      clear hg2 c1 c2 c3 hx hg
      by_cases hk : chk (x1, x2, x3) = 0
      · rw [hk] at FC
        have HK := Lib.hid hk
        clear hk HF
        go_wp2_with (go_at_call 88; refine (FC.out _).mono ?_; rintro e w1 ⟨rfl, hg1⟩)
        go_roundg (l.length - (i + 1))
        case measure => omega
        case rel =>
          refine ⟨i + 1, by go_num, by omega, Nat.le_refl _, HG.out.trans ((Gr.alloc (Gr.refl wr) _).trans hg1), (show Hid _ from fun j hj => ?_)⟩
          by_cases e : j = i
          · subst e; rw [X.out]; exact HK.out
          · exact I.out j (by omega)
      · have hf := HF.out hk
        have hrn : rowN l = chk (x1, x2, x3) := by unfold rowN; rw [hf, if_pos hk]
        have E := Lib.hid (show rowN l = chk (x1, x2, x3) ∧ rowL l = [] from ⟨hrn, by unfold rowL; rw [hrn, if_neg hk]⟩)
        generalize chk (x1, x2, x3) = cn at *
        have hcn : ((cn : Int) != 0) = true := by simp; omega
        have hcn2 : ((cn : Int) == 0) = false := beq_eq_false_iff_ne.2 (by omega)
        clear hf hrn hk HF
        go_wp2_with (go_at_call 88; refine (FC.out _).mono ?_; rintro e w1 ⟨rfl, hg1⟩)
        go_ret2
        refine ⟨⟨.slice none 0 0, by rw [E.out.1]; rfl, by rw [E.out.2]; exact World.ownsRow_nil _ _ _ _⟩, ?_⟩
        exact (HG.out.trans ((Gr.alloc (Gr.refl wr) _).trans hg1)).below
    · have hf : firstE l = 0 := (firstE_zero l).2 fun x hx => by
        obtain ⟨j, hj, rfl⟩ := List.getElem_of_mem hx
        have := I.out j (by omega)
        rwa [getElem!_pos l j hj] at this
      have HF := Lib.hid hf
      have B0 := Lib.hid (Ba HG.out.below (.cells #[] 34))
      have O0 := Lib.hid (show (wr.alloc (.cells #[] 34)).ownsRow w.heap.size 34 3 (.slice (some ⟨wr.heap.size, 0, none⟩) 0 0) ([] : List Vl).length (flat encV []) from World.ownsRow_made _ #[] 0 HG.out.below.size (Nat.zero_le _) (by simp))
      clear hf hg I
      obtain ⟨M0, hM0⟩ : ∃ M0, M0 = wr := ⟨_, rfl⟩
      subst hM0
      go_wp2
      go_loopg [7, 8] 10 (fun gk s7 s8 wo => ∃ (k : Nat) (L : List Vl), s8 = .int .i64 k ∧ k ≤ 10 ∧ 10 - k ≤ gk ∧ RowKit.Below w.heap.size w wo ∧ wo.ownsRow w.heap.size 34 3 s7 L.length (flat encV L) ∧ L.length ≤ k ∧ Hid (L = rowTo k l) ∧ Hid (∀ j, j < k → (ofKind j l).length ≤ 1))
      case atStart => exact ⟨0, [], rfl, by omega, by omega, B0.out, O0.out, Nat.le_refl _, rfl, fun j hj => absurd hj (Nat.not_lt_zero _)⟩
      case round =>
        obtain ⟨k, L, rfl, hk, hgk2, hb, hown, hLl, I1, I2⟩ := hrel
        have HB := Lib.hid hb
        have HO := Lib.hid hown
        obtain ⟨pr, cr, rfl, _, _, _⟩ := row_val hown
        clear hb hown
        obtain ⟨M1, hM1⟩ : ∃ M1, M1 = wr := ⟨_, rfl⟩
        subst hM1
        by_cases hk10 : k < 10
        · have hme := Nat.lt_of_lt_of_le (show 10 - (k + 1) < 10 - k by omega) hgk2
          have hkw : ((k : Int) < 10) := by omega
          have B1 := Lib.hid HB.out
          go_wp2
          go_loopg [7, 9, 31] l.length (fun gk s7 s9 s31 wi => ∃ (i : Nat) (M N : List Vl), s31 = .int .i64 i ∧ s9 = .int .i64 M.length ∧ i ≤ l.length ∧ l.length - i ≤ gk ∧ RowKit.Below w.heap.size w wi ∧ wi.ownsRow w.heap.size 34 3 s7 N.length (flat encV N) ∧ M.length ≤ i ∧ Hid (N = L ++ M) ∧ Hid (M = ofKind k (l.take i)))
          case atStart => exact ⟨0, [], L, rfl, rfl, Nat.zero_le _, by omega, HB.out, HO.out, Nat.le_refl _, (show Hid _ from by show _ = _; rw [List.append_nil]), (show Hid _ from by show _ = _; simp [ofKind])⟩
          case round =>
            obtain ⟨i, M, N, rfl, rfl, hi, hgk3, hb, hown, hMl, NE, I3⟩ := hrel
            have HBi := Lib.hid hb
            have HOi := Lib.hid hown
            obtain ⟨pi, ci, ev, _, _, _⟩ := row_val hown
            subst ev
            obtain ⟨m, hm⟩ : ∃ m, m = M.length := ⟨_, rfl⟩
            rw [← hm] at hMl ⊢
            have HM := Lib.hid hm
            clear hm
            by_cases hin : i < l.length
            · obtain ⟨g, o, rfl, hg1, hg2⟩ := HL.out (by omega)
              obtain ⟨c1, c2, c3⟩ := atV hg2 hin
              have d1 : wr.cell? ⟨g, o + i * 3, none⟩ = _ := Bc HBi.out hg1 c1
              have d2 : wr.cell? ⟨g, o + i * 3 + 1, none⟩ = _ := Bc HBi.out hg1 c2
              have d3 : wr.cell? ⟨g, o + i * 3 + 2, none⟩ = _ := Bc HBi.out hg1 c3
              have hgw : g < wr.heap.size := Bl HBi.out hg1
              have ST := Lib.hid (ofKind_step hin k)
              generalize hx : l[i]! = x at *
              obtain ⟨x1, x2, x3⟩ := x
              dsimp only at d1 d2 d3
              clear hg2 c1 c2 c3 hx hb hown
              have BA := Lib.hid (Ba (Ba (Below.refl _ wr) (.cells #[.int .i64 x1, .int .i64 x2, .int .i64 x3] 34)) (.cells #[.int .i64 x1, .int .i64 x2, .int .i64 x3] 34))
              by_cases hk : x1 = (k : Int)
              · have hne : (x1 == (k : Int)) = true := beq_iff_eq.2 hk
                have HK := Lib.hid hk
                have O2 := Lib.hid (row_keep HOi.out (fun g hg => BA.out.block g (row_lt HOi.out hg)))
                have S2 := Lib.hid (sl_lit (enc := encV) (w := wr.alloc (.cells #[.int .i64 x1, .int .i64 x2, .int .i64 x3] 34)) (cs := #[.int .i64 x1, .int .i64 x2, .int .i64 x3]) (t := 34) (b := wr.heap.size + 1) [(x1, x2, x3)] (by simp) rfl (by unfold maxLen; simp))
                have LE := Lib.hid (show w.heap.size ≤ ((wr.alloc (.cells #[.int .i64 x1, .int .i64 x2, .int .i64 x3] 34)).alloc (.cells #[.int .i64 x1, .int .i64 x2, .int .i64 x3] 34)).heap.size from by have := HBi.out.size; simp; omega)
                have LN := Lib.hid (show N.length + [((x1, x2, x3) : Vl)].length ≤ 1000000 from by have := HM.out; have h := congrArg List.length NE.out; rw [List.length_append] at h; simp; omega)
                clear hk
                go_wp2_with (at_builtin; refine wpl_app apV rfl _ _ rfl w.heap.size (by rfl) (by rfl) O2.out (by first | rfl | simp) S2.out LN.out LE.out ?_; intro v1 w1 hown1 hgrow1 hnil1)
                have hb1 := grownB (Bt HBi.out BA.out) O2.out hgrow1
                have eL : N.length + [((x1, x2, x3) : Vl)].length = (N ++ [(x1, x2, x3)]).length := by simp
                rw [eL] at hown1
                clear hgrow1 hnil1 eL
                go_roundg (l.length - (i + 1))
                case measure => omega
                case rel => exact ⟨i + 1, M ++ [(x1, x2, x3)], N ++ [(x1, x2, x3)], by go_num, by have := HM.out; rw [List.length_append]; subst this; go_num, by omega, Nat.le_refl _, hb1, hown1, by have := HM.out; simp; omega, (show Hid _ from by show _ = _; rw [NE.out, List.append_assoc]), (show Hid _ from by show _ = _; rw [ST.out, if_pos HK.out, ← I3.out])⟩
              · have hne : (x1 == (k : Int)) = false := beq_eq_false_iff_ne.2 hk
                have HK := Lib.hid hk
                clear hk
                go_wp2
                go_roundg (l.length - (i + 1))
                case measure => omega
                case rel => exact ⟨i + 1, M, N, by go_num, by rw [HM.out], by omega, Nat.le_refl _, Ba HBi.out _, row_keep HOi.out (fun g hg => (Ba (Below.refl _ wr) (.cells #[.int .i64 x1, .int .i64 x2, .int .i64 x3] 34)).block g (row_lt HOi.out hg)), by have := HM.out; omega, NE, (show Hid _ from by show _ = _; rw [ST.out, if_neg HK.out]; exact I3.out)⟩
            · have hii : i = l.length := by omega
              have hM : M = ofKind k l := by have := I3.out; rwa [hii, List.take_length] at this
              have HMK := Lib.hid hM
              clear hM hb hown I3
              by_cases hm1 : 1 < m
              · have hm1i : (1 : Int) < (m : Int) := by omega
                have hdup : dupB l = true := by
                  unfold dupB
                  rw [List.any_eq_true]
                  exact ⟨k, List.mem_range.2 hk10, decide_eq_true (by rw [← HMK.out, ← HM.out]; exact hm1)⟩
                have hn : rowN l = 4 := by unfold rowN; rw [HF.out, hdup]; rfl
                have E := Lib.hid (show rowN l = 4 ∧ rowL l = [] from ⟨hn, by unfold rowL; rw [hn]; rfl⟩)
                clear hdup hn
                go_wp2
                go_ret2
                exact ⟨⟨.slice none 0 0, by rw [E.out.1]; rfl, by rw [E.out.2]; exact World.ownsRow_nil _ _ _ _⟩, HBi.out⟩
              · have hm1i : ¬ (1 : Int) < (m : Int) := by omega
                go_wp2
                go_roundg (10 - (k + 1))
                case measure => exact hme
                case rel => exact ⟨k + 1, N, by go_num, by omega, Nat.le_refl _, HBi.out, HOi.out, by have := HM.out; have h := congrArg List.length NE.out; rw [List.length_append] at h; omega, (show Hid _ from by show _ = _; rw [rowTo_succ, ← I1.out, ← HMK.out]; exact NE.out), (show Hid _ from fun j hj => by
                  by_cases e : j = k
                  · subst e; rw [← HMK.out, ← HM.out]; omega
                  · exact I2.out j (by omega))⟩
        · have hk10' : k = 10 := by omega
          have hdup : dupB l = false := (dup_no l).2 fun j hj => I2.out j (by omega)
          have hn : rowN l = 0 := by unfold rowN; rw [HF.out, hdup]; rfl
          have E := Lib.hid (show rowN l = 0 ∧ rowL l = L from ⟨hn, by unfold rowL; rw [if_pos hn, I1.out, hk10']⟩)
          have hkw : ¬ ((k : Int) < 10) := by omega
          clear hdup hn
          go_wp2
          go_ret2
          exact ⟨⟨_, by rw [E.out.1]; rfl, by rw [E.out.2]; exact HO.out⟩, HB.out⟩

set_option maxHeartbeats 4000000 in
set_option maxRecDepth 100000 in
theorem rput_own (l : List Vl) (v : Value) (x1 x2 x3 : Int) (w : World) (hl : Sl encV w v l) (hr : RightV l) (hx : chk (x1, x2, x3) = 0) (hlen : l.length ≤ 1000) :
    Calls Tryz.prog 90 #[v, .agg #[.int .i64 x1, .int .i64 x2, .int .i64 x3]] w fun e w' => (∃ v', e = .returned v' ∧ w'.ownsRow w.heap.size 34 3 v' (putV l (x1, x2, x3)).length (flat encV (putV l (x1, x2, x3)))) ∧ RowKit.Below w.heap.size w w' := by
  have hsz : (w.alloc (.cells #[.int .i64 x1, .int .i64 x2, .int .i64 x3] 34)).heap.size = w.heap.size + 1 := by simp
  have HS := Lib.hid (hl.below (Ba (Below.refl _ w) (.cells #[.int .i64 x1, .int .i64 x2, .int .i64 x3] 34)))
  obtain ⟨D, hD⟩ : ∃ D, D = dropV l x1 := ⟨_, rfl⟩
  have hDl : D.length ≤ l.length := by rw [hD]; exact List.length_filter_le _ _
  obtain ⟨PL, hPL⟩ : ∃ PL, PL = putV l (x1, x2, x3) := ⟨_, rfl⟩
  have hrow : rowL (D ++ [(x1, x2, x3)]) = PL := by rw [hD, hPL]; exact putV_ref hr hx
  obtain ⟨n, hn⟩ : ∃ n, n = rowN (D ++ [(x1, x2, x3)]) := ⟨_, rfl⟩
  have CD : Hid (∀ W, RowKit.Below (w.alloc (.cells #[.int .i64 x1, .int .i64 x2, .int .i64 x3] 34)).heap.size (w.alloc (.cells #[.int .i64 x1, .int .i64 x2, .int .i64 x3] 34)) W → Calls Tryz.prog 94 #[v, .int .i64 x1] W fun e w' => (∃ v', e = .returned v' ∧ w'.ownsRow (w.alloc (.cells #[.int .i64 x1, .int .i64 x2, .int .i64 x3] 34)).heap.size 34 3 v' D.length (flat encV D)) ∧ RowKit.Below W.heap.size W w') := fun W h => (rdrop_call l v x1 W (HS.out.below h) (by omega)).mono fun e w' ⟨v', h1, h2, h3⟩ => ⟨⟨v', h1, by rw [hD]; exact own_mono h2 h.size⟩, h3⟩
  have CR : Hid (∀ W va, Sl encV W va (D ++ [(x1, x2, x3)]) → Calls Tryz.prog 134 #[va] W fun e w' => (∃ v', e = .returned (.tuple #[v', .int .i64 n]) ∧ w'.ownsRow W.heap.size 34 3 v' PL.length (flat encV PL)) ∧ RowKit.Below W.heap.size W w') := fun W va h => by
    have := rrow_own (D ++ [(x1, x2, x3)]) va W h (by simp; omega)
    rwa [hrow, ← hn] at this
  rw [← hPL]
  have HDL := Lib.hid hDl
  clear hl hr hx hD hPL hrow hn hDl
  go_enter Tryz.func90, Tryz.ntmps90
  go_wp2_with fail
  refine wp_region_held_drew (S := (fun w' => Below (w.alloc (.cells #[.int .i64 x1, .int .i64 x2, .int .i64 x3] 34)).heap.size (w.alloc (.cells #[.int .i64 x1, .int .i64 x2, .int .i64 x3] 34)) w' ∧ ∀ b_1 o, b_1 < (w.alloc (.cells #[.int .i64 x1, .int .i64 x2, .int .i64 x3] 34)).heap.size → w'.cell? ⟨b_1, o, none⟩ = (w.alloc (.cells #[.int .i64 x1, .int .i64 x2, .int .i64 x3] 34)).cell? ⟨b_1, o, none⟩)) (by kernel_rfl) (keep0 _) (fun hHeld => ?_)
  (refine wpAnyH_take (i := 0) (v := ?_) rfl (by kernel_rfl) (by kernel_rfl) (by kernel_rfl) (fun _ _ _ h => h) (Or.inl ⟨by rfl, ?rt⟩) (by assumption) ?_; case rt => (intro w hSw; (try dsimp only at hSw); go_simp; (try with_reducible rfl))); (try simp only [Act.put, List.getElem_toArray, List.getElem_cons_succ, List.getElem_cons_zero, List.setIfInBounds_toArray, List.set_cons_zero, List.set_cons_succ])
  (refine wpAnyH_take (i := 1) (v := ?_) rfl (by kernel_rfl) (by kernel_rfl) (by kernel_rfl) (fun _ _ _ h => h) (Or.inl ⟨by rfl, ?rt⟩) (by assumption) ?_; case rt => (intro w hSw; (try dsimp only at hSw); go_simp; (try with_reducible rfl))); (try simp only [Act.put, List.getElem_toArray, List.getElem_cons_succ, List.getElem_cons_zero, List.setIfInBounds_toArray, List.set_cons_zero, List.set_cons_succ])
  (refine wpAnyH_take (i := 2) (v := ?_) rfl (by kernel_rfl) (by kernel_rfl) (by kernel_rfl) (fun _ _ _ h => h) (Or.inl ⟨by rfl, ?rt⟩) (by assumption) ?_; case rt => (intro w hSw; (try dsimp only at hSw); go_simp; (try with_reducible rfl))); (try simp only [Act.put, List.getElem_toArray, List.getElem_cons_succ, List.getElem_cons_zero, List.setIfInBounds_toArray, List.set_cons_zero, List.set_cons_succ])
  (refine wpAnyH_take (i := 4) (v := ?_) rfl (by kernel_rfl) (by kernel_rfl) (by kernel_rfl) (fun _ _ _ h => h) (Or.inl ⟨by rfl, ?rt⟩) (by assumption) ?_; case rt => (intro w hSw; (try dsimp only at hSw); go_simp; (try with_reducible rfl))); (try simp only [Act.put, List.getElem_toArray, List.getElem_cons_succ, List.getElem_cons_zero, List.setIfInBounds_toArray, List.set_cons_zero, List.set_cons_succ])
  refine wpAnyH_ready (rs := [3, 5]) (by kernel_rfl) (by simp) ?_; refine (AllReadyH.cons rfl (fun K hK => ?_) (AllReadyH.cons rfl (fun K hK => ?_) AllReadyH.nil))
  · go_simp; refine (CD.out _ (And.left (by assumption))).mono ?_; rintro e w1 ⟨⟨v1, rfl, ho1⟩, hb1⟩; refine hK.out _ _ (keepB (by assumption) hb1) (fun hHeld => ?_); clear hK K; (try simp only [Act.put, List.getElem_toArray, List.getElem_cons_succ, List.getElem_cons_zero, List.setIfInBounds_toArray, List.set_cons_zero, List.set_cons_succ]); have O1 := Lib.hid ho1; have BC := Lib.hid hb1; clear ho1 hb1
    refine wpAnyH_ready (rs := [5]) (by kernel_rfl) (by simp) ?_; refine (AllReadyH.cons rfl (fun K hK => ?_) AllReadyH.nil)
    go_simp; refine hK.out _ _ (keepA (by assumption) _) (fun hHeld => ?_); clear hK K; (try simp only [Act.put, List.getElem_toArray, List.getElem_cons_succ, List.getElem_cons_zero, List.setIfInBounds_toArray, List.set_cons_zero, List.set_cons_succ])
    refine wpAnyH_ready (rs := [6]) (by kernel_rfl) (by simp) ?_; refine (AllReadyH.cons rfl (fun K hK => ?_) AllReadyH.nil)
    refine wp_app2 apV (.tmp 11) (.tmp 13) rfl (w.alloc (.cells #[.int .i64 x1, .int .i64 x2, .int .i64 x3] 34)).heap.size (by rfl) (by rfl) (own_below O1.out (Ba (Below.refl _ _) _)) rfl (sl_lit (enc := encV) (cs := #[.int .i64 x1, .int .i64 x2, .int .i64 x3]) (t := 34) [(x1, x2, x3)] (by simp) rfl (by unfold maxLen; simp)) (by have := HDL.out; simp; omega) ((And.left (by assumption) : RowKit.Below (w.alloc (.cells #[.int .i64 x1, .int .i64 x2, .int .i64 x3] 34)).heap.size (w.alloc (.cells #[.int .i64 x1, .int .i64 x2, .int .i64 x3] 34)) _).size) ?_; intro va wa hown hgrow hat hnil; have hba := grownB (And.left (by assumption)) (own_below O1.out (Ba (Below.refl _ _) _)) hgrow; refine hK.out _ _ (keepOfB hba) (fun hHeld => ?_); clear hK K; (try simp only [Act.put, List.getElem_toArray, List.getElem_cons_succ, List.getElem_cons_zero, List.setIfInBounds_toArray, List.set_cons_zero, List.set_cons_succ])
    refine wpAnyH_ready (rs := [7]) (by kernel_rfl) (by simp) ?_; refine (AllReadyH.cons rfl (fun K hK => ?_) AllReadyH.nil)
    go_simp; refine (CR.out _ _ (row_sl lenV hown rfl)).mono ?_; rintro e w1 ⟨⟨v2, rfl, hs2⟩, hb1⟩; refine hK.out _ _ (keepB (by assumption) hb1) (fun hHeld => ?_); clear hK K; (try simp only [Act.put, List.getElem_toArray, List.getElem_cons_succ, List.getElem_cons_zero, List.setIfInBounds_toArray, List.set_cons_zero, List.set_cons_succ]); have S2 := Lib.hid hs2; clear hs2
    (refine wpAnyH_take (i := 8) (v := ?_) rfl (by kernel_rfl) (by kernel_rfl) (by kernel_rfl) (fun _ _ _ h => h) (Or.inl ⟨by rfl, ?rt⟩) (by assumption) ?_; case rt => (intro w hSw; (try dsimp only at hSw); go_simp; (try with_reducible rfl))); (try simp only [Act.put, List.getElem_toArray, List.getElem_cons_succ, List.getElem_cons_zero, List.setIfInBounds_toArray, List.set_cons_zero, List.set_cons_succ])
    (refine wpAnyH_take (i := 9) (v := ?_) rfl (by kernel_rfl) (by kernel_rfl) (by kernel_rfl) (fun _ _ _ h => h) (Or.inl ⟨by rfl, ?rt⟩) (by assumption) ?_; case rt => (intro w hSw; (try dsimp only at hSw); go_simp; (try with_reducible rfl))); (try simp only [Act.put, List.getElem_toArray, List.getElem_cons_succ, List.getElem_cons_zero, List.setIfInBounds_toArray, List.set_cons_zero, List.set_cons_succ])
    (refine wpAnyH_take (i := 10) (v := ?_) rfl (by kernel_rfl) (by kernel_rfl) (by kernel_rfl) (fun _ _ _ h => h) (Or.inl ⟨by rfl, ?rt⟩) (by assumption) ?_; case rt => (intro w hSw; (try dsimp only at hSw); go_simp; (try with_reducible rfl))); (try simp only [Act.put, List.getElem_toArray, List.getElem_cons_succ, List.getElem_cons_zero, List.setIfInBounds_toArray, List.set_cons_zero, List.set_cons_succ])
    (refine wpAnyH_take (i := 11) (v := ?_) rfl (by kernel_rfl) (by kernel_rfl) (by kernel_rfl) (fun _ _ _ h => h) (Or.inl ⟨by rfl, ?rt⟩) (by assumption) ?_; case rt => (intro w hSw; (try dsimp only at hSw); go_simp; (try with_reducible rfl))); (try simp only [Act.put, List.getElem_toArray, List.getElem_cons_succ, List.getElem_cons_zero, List.setIfInBounds_toArray, List.set_cons_zero, List.set_cons_succ])
    (refine wpAnyH_take (i := 12) (v := ?_) rfl (by kernel_rfl) (by kernel_rfl) (by kernel_rfl) (fun _ _ _ h => h) (Or.inl ⟨by rfl, ?rt⟩) (by assumption) ?_; case rt => (intro w hSw; (try dsimp only at hSw); go_simp; (try with_reducible rfl))); (try simp only [Act.put, List.getElem_toArray, List.getElem_cons_succ, List.getElem_cons_zero, List.setIfInBounds_toArray, List.set_cons_zero, List.set_cons_succ])
    refine wpAnyH_done (by kernel_rfl) ?_ _
    go_wp2
    go_ret
    exact ⟨⟨v2, rfl, row_mono S2.out (by have := hba.size; simp at this; omega)⟩, Bt (Ba (Below.refl _ w) _) (And.left (by assumption))⟩
  · go_simp; refine hK.out _ _ (keepA (by assumption) _) (fun hHeld => ?_); clear hK K; (try simp only [Act.put, List.getElem_toArray, List.getElem_cons_succ, List.getElem_cons_zero, List.setIfInBounds_toArray, List.set_cons_zero, List.set_cons_succ])
    refine wpAnyH_ready (rs := [3]) (by kernel_rfl) (by simp) ?_; refine (AllReadyH.cons rfl (fun K hK => ?_) AllReadyH.nil)
    go_simp; refine (CD.out _ (And.left (by assumption))).mono ?_; rintro e w1 ⟨⟨v1, rfl, ho1⟩, hb1⟩; refine hK.out _ _ (keepB (by assumption) hb1) (fun hHeld => ?_); clear hK K; (try simp only [Act.put, List.getElem_toArray, List.getElem_cons_succ, List.getElem_cons_zero, List.setIfInBounds_toArray, List.set_cons_zero, List.set_cons_succ]); have O1 := Lib.hid ho1; have BC := Lib.hid hb1; clear ho1 hb1
    refine wpAnyH_ready (rs := [6]) (by kernel_rfl) (by simp) ?_; refine (AllReadyH.cons rfl (fun K hK => ?_) AllReadyH.nil)
    refine wp_app2 apV (.tmp 11) (.tmp 13) rfl (w.alloc (.cells #[.int .i64 x1, .int .i64 x2, .int .i64 x3] 34)).heap.size (by rfl) (by rfl) (O1.out) rfl (Sl.below (Sl.below (sl_lit (enc := encV) (w := w.alloc (.cells #[.int .i64 x1, .int .i64 x2, .int .i64 x3] 34)) (cs := #[.int .i64 x1, .int .i64 x2, .int .i64 x3]) (t := 34) (b := w.heap.size + 1) [(x1, x2, x3)] (by simp) rfl (by unfold maxLen; simp)) (Bd (Below.refl _ _))) BC.out) (by have := HDL.out; simp; omega) ((And.left (by assumption) : RowKit.Below (w.alloc (.cells #[.int .i64 x1, .int .i64 x2, .int .i64 x3] 34)).heap.size (w.alloc (.cells #[.int .i64 x1, .int .i64 x2, .int .i64 x3] 34)) _).size) ?_; intro va wa hown hgrow hat hnil; have hba := grownB (And.left (by assumption)) (O1.out) hgrow; refine hK.out _ _ (keepOfB hba) (fun hHeld => ?_); clear hK K; (try simp only [Act.put, List.getElem_toArray, List.getElem_cons_succ, List.getElem_cons_zero, List.setIfInBounds_toArray, List.set_cons_zero, List.set_cons_succ])
    refine wpAnyH_ready (rs := [7]) (by kernel_rfl) (by simp) ?_; refine (AllReadyH.cons rfl (fun K hK => ?_) AllReadyH.nil)
    go_simp; refine (CR.out _ _ (row_sl lenV hown rfl)).mono ?_; rintro e w1 ⟨⟨v2, rfl, hs2⟩, hb1⟩; refine hK.out _ _ (keepB (by assumption) hb1) (fun hHeld => ?_); clear hK K; (try simp only [Act.put, List.getElem_toArray, List.getElem_cons_succ, List.getElem_cons_zero, List.setIfInBounds_toArray, List.set_cons_zero, List.set_cons_succ]); have S2 := Lib.hid hs2; clear hs2
    (refine wpAnyH_take (i := 8) (v := ?_) rfl (by kernel_rfl) (by kernel_rfl) (by kernel_rfl) (fun _ _ _ h => h) (Or.inl ⟨by rfl, ?rt⟩) (by assumption) ?_; case rt => (intro w hSw; (try dsimp only at hSw); go_simp; (try with_reducible rfl))); (try simp only [Act.put, List.getElem_toArray, List.getElem_cons_succ, List.getElem_cons_zero, List.setIfInBounds_toArray, List.set_cons_zero, List.set_cons_succ])
    (refine wpAnyH_take (i := 9) (v := ?_) rfl (by kernel_rfl) (by kernel_rfl) (by kernel_rfl) (fun _ _ _ h => h) (Or.inl ⟨by rfl, ?rt⟩) (by assumption) ?_; case rt => (intro w hSw; (try dsimp only at hSw); go_simp; (try with_reducible rfl))); (try simp only [Act.put, List.getElem_toArray, List.getElem_cons_succ, List.getElem_cons_zero, List.setIfInBounds_toArray, List.set_cons_zero, List.set_cons_succ])
    (refine wpAnyH_take (i := 10) (v := ?_) rfl (by kernel_rfl) (by kernel_rfl) (by kernel_rfl) (fun _ _ _ h => h) (Or.inl ⟨by rfl, ?rt⟩) (by assumption) ?_; case rt => (intro w hSw; (try dsimp only at hSw); go_simp; (try with_reducible rfl))); (try simp only [Act.put, List.getElem_toArray, List.getElem_cons_succ, List.getElem_cons_zero, List.setIfInBounds_toArray, List.set_cons_zero, List.set_cons_succ])
    (refine wpAnyH_take (i := 11) (v := ?_) rfl (by kernel_rfl) (by kernel_rfl) (by kernel_rfl) (fun _ _ _ h => h) (Or.inl ⟨by rfl, ?rt⟩) (by assumption) ?_; case rt => (intro w hSw; (try dsimp only at hSw); go_simp; (try with_reducible rfl))); (try simp only [Act.put, List.getElem_toArray, List.getElem_cons_succ, List.getElem_cons_zero, List.setIfInBounds_toArray, List.set_cons_zero, List.set_cons_succ])
    (refine wpAnyH_take (i := 12) (v := ?_) rfl (by kernel_rfl) (by kernel_rfl) (by kernel_rfl) (fun _ _ _ h => h) (Or.inl ⟨by rfl, ?rt⟩) (by assumption) ?_; case rt => (intro w hSw; (try dsimp only at hSw); go_simp; (try with_reducible rfl))); (try simp only [Act.put, List.getElem_toArray, List.getElem_cons_succ, List.getElem_cons_zero, List.setIfInBounds_toArray, List.set_cons_zero, List.set_cons_succ])
    refine wpAnyH_done (by kernel_rfl) ?_ _
    go_wp2
    go_ret
    exact ⟨⟨v2, rfl, row_mono S2.out (by have := hba.size; simp at this; omega)⟩, Bt (Ba (Below.refl _ w) _) (And.left (by assumption))⟩
end Go.Proofs.YtaehendpdfpibaaGreatDoor

/-
  The reference's store: Add, Remove, Set (written by mkra8.py).
-/
namespace Go.Proofs.YtaehendpdfpibaaGreatDoor
set_option linter.unusedSimpArgs false
set_option linter.unusedVariables false
open Go.RowKit Go.Sort Go.Lib Go.Shelf

theorem right_len8 {l : List Vl} (h : RightV l) : l.length ≤ 1000 := by
  have := rowL_len l
  rw [(right_row h).2] at this
  omega
theorem keepS3 {W0 w1 : World} (h : RowKit.Below W0.heap.size W0 w1 ∧ ∀ b o, b < W0.heap.size → w1.cell? ⟨b, o, none⟩ = W0.cell? ⟨b, o, none⟩) {b : Nat} (hb : W0.heap.size ≤ b) (u1 u2 u3 : Value) :
    RowKit.Below W0.heap.size W0 (((w1.setCell ⟨b, 0, none⟩ u1).setCell ⟨b, 1, none⟩ u2).setCell ⟨b, 2, none⟩ u3) ∧ ∀ b' o, b' < W0.heap.size → (((w1.setCell ⟨b, 0, none⟩ u1).setCell ⟨b, 1, none⟩ u2).setCell ⟨b, 2, none⟩ u3).cell? ⟨b', o, none⟩ = W0.cell? ⟨b', o, none⟩ := by
  have hB := Bs (Bs (Bs h.1 (p := ⟨b, 0, none⟩) hb u1) (p := ⟨b, 1, none⟩) hb u2) (p := ⟨b, 2, none⟩) hb u3
  exact ⟨hB, fun b' o hl => hB.cell (p := ⟨b', o, none⟩) hl⟩
section
variable {w w' W W6 : World} {N : Nat → Prop} {pr : Nat} {L : List En}
/-- become, on what has just been made. -/
theorem rbecome2 (HR : RefS w N pr L) (hG : Good L) {i : Nat} (hi : i < L.length) {x1 x2 : Int} {l0 : List Vl} (hL : L[i]! = ((x1, x2), l0)) (l : List Vl) (s : Option Addr) (c : Nat) (B5 : RowKit.Below w.heap.size w W) (B6 : RowKit.Below W.heap.size W W6) (OP : W6.ownsRow W.heap.size 34 3 (.slice s l.length c) l.length (flat encV l)) (hr : RightV l) :
    Calls Tryz.prog 89 #[rsP pr, .int .i64 i, .slice s l.length c] W6 fun e w' => e = .returned (.int .i64 (moveEN L (x1, x2) l : Nat)) ∧ RefS w' (New N w w') pr (moveEL L (x1, x2) l) ∧ Tch (fun b => b = pr) w w' := by
  have BW := Bt B5 B6
  have hs5 := B5.size
  have hpr : pr < w.heap.size := by
    obtain ⟨p, cap, N1, _, _, _, _, hNp, _⟩ := HR.open
    exact HR.lt pr hNp
  refine (rbecomeS (refS_new HR BW).1 hG hi hL l s c (Ne := fun b => W.heap.size ≤ b ∧ b < W6.heap.size) ((SlN.of lenV OP rfl).inside8) (fun b e => ⟨.inr ⟨by omega, e.2⟩, by omega⟩) hr).mono fun e w' ⟨he, hR, ht⟩ => ⟨he, ?_, (Tch.of BW).more ht⟩
  exact hR.mono (fun b e => New.step BW.size ht.size b e) (fun b e => hR.lt b (by
    rcases e with e | e
    · exact .inl (.inl e)
    · rcases Nat.lt_or_ge b W6.heap.size with c | c
      · exact .inl (.inr ⟨e.1, c⟩)
      · exact .inr ⟨c, e.2⟩))
set_option maxHeartbeats 8000000 in
set_option maxRecDepth 100000 in
theorem raddS (h : RefS w N pr L) (hG : Good L) (x1 x2 y1 y2 y3 : Int) :
    Calls Tryz.prog 48 #[rsP pr, .agg #[.int .i64 x1, .int .i64 x2], .agg #[.int .i64 y1, .int .i64 y2, .int .i64 y3]] w fun e w' => e = .returned (.int .i64 (addEN L (x1, x2) (y1, y2, y3) : Nat)) ∧ RefS w' (New N w w') pr (addEL L (x1, x2) (y1, y2, y3)) ∧ Tch (fun b => b = pr) w w' := by
  have HR := Lib.hid h
  have HG := Lib.hid hG
  obtain ⟨W, hW⟩ : ∃ W, W = (w.alloc (.cells #[.int .i64 x1, .int .i64 x2] 31)).alloc (.cells #[.int .i64 y1, .int .i64 y2, .int .i64 y3] 34) := ⟨_, rfl⟩
  have B0 := Lib.hid (show RowKit.Below w.heap.size w W by rw [hW]; exact (by repeat (first | with_reducible exact Below.refl _ _ | with_reducible assumption | with_reducible apply Ba | with_reducible apply Bd | with_reducible apply Bn | with_reducible apply Bg | (with_reducible refine Bs ?_ (by first | (simp; done) | (simp; omega)) _) | (with_reducible refine Bt ?_ (by assumption)) | (with_reducible refine Bt ?_ (Gr.below (by assumption))))))
  have b0 := Lib.hid (show W.heap[w.heap.size]? = some (.cells #[.int .i64 x1, .int .i64 x2] 31 (0, 0)) by rw [hW]; exact blk_below (heap_alloc_new w (.cells #[.int .i64 x1, .int .i64 x2] 31)) (Ba (Below.refl _ _) (.cells #[.int .i64 y1, .int .i64 y2, .int .i64 y3] 34)))
  have v0 := Lib.hid (show W.heap[w.heap.size + 1]? = some (.cells #[.int .i64 y1, .int .i64 y2, .int .i64 y3] 34 (0, 0)) by rw [hW]; exact by have := heap_alloc_new (w.alloc (.cells #[.int .i64 x1, .int .i64 x2] 31)) (.cells #[.int .i64 y1, .int .i64 y2, .int .i64 y3] 34); rwa [show (w.alloc (.cells #[.int .i64 x1, .int .i64 x2] 31)).heap.size = w.heap.size + 1 by simp] at this)
  have CF := Lib.hid (rfindS (h.below B0.out) x1 x2)
  have h0 := Lib.hid (h.below B0.out)
  clear h
  cases hf : fndE L (x1, x2) with
  | none =>
    have e1 : addEN L (x1, x2) (y1, y2, y3) = 3 := by unfold addEN; rw [hf]; rfl
    have e2 : addEL L (x1, x2) (y1, y2, y3) = L := by unfold addEL; rw [e1]; rfl
    rw [e1, e2]
    rw [fixE_none hf] at CF
    clear hf e1 e2
    go_enter Tryz.func48, Tryz.ntmps48
    go_wp2_with fail
    rw [← hW]
    clear hW
    refine CF.out.mono ?_
    rintro e w1 ⟨rfl, hb1⟩
    have B1 := Bt B0.out hb1
    go_wp2
    go_ret
    exact ⟨rfl, refS_new HR.out B1⟩
  | some l =>
    obtain ⟨i, hi1, hi2, hi3⟩ := fixE_some hf
    have hrw := rowE_of hf
    rw [hi1] at CF
    have hrt : RightV l := hG.right ((x1, x2), l) (by rw [← hi3, getElem!_pos L i hi2]; exact List.getElem_mem _)
    have h128 := hG.len
    obtain ⟨p, cap, N1, hb, hls, h1, h2, hNp, hN1⟩ := h0.out.open
    have HB := Lib.hid hb
    have hiz : (i : Int) < (L.length : Int) := by omega
    obtain ⟨g, o, sp, n0, rfl, hg, _, d1, d2, d3, hsl, hc1, hc2⟩ := hls.at hi2
    rw [hi3] at d1 d2 d3 hsl hc1
    dsimp only at d1 d2 d3 hsl hc1
    have D3 := Lib.hid (show ∀ W1, RowKit.Below W.heap.size W W1 → W1.cell? ⟨g, o + i * 3 + 2, none⟩ = some (.slice sp l.length n0) ∧ g < W1.heap.size from fun W1 hb9 => ⟨Bc hb9 hg d3, Bl hb9 hg⟩)
    have HSL := Lib.hid hsl.sl
    have HL3 := Lib.hid hi3
    clear hb hls hN1 hi1 hi3 hsl d1 d2 d3 hG
    have CC := Lib.hid (fun W1 => rcheck_any (y1, y2, y3) W1)
    unfold aggV at CC
    by_cases hc : chk (y1, y2, y3) = 0
    · rw [hc] at CC
      have CF1 : Hid (∀ W1, RowKit.Below W.heap.size W W1 → Calls Tryz.prog 58 #[.slice sp l.length n0, .int .i64 y1] W1 fun e w' => e = .returned (.tuple #[aggV (fndV l y1), .bool (hasK l y1)]) ∧ RowKit.Below W1.heap.size W1 w') := fun W1 hb9 => (rfind_call l _ y1 W1 (HSL.out.below hb9)).mono fun e w' ⟨q1, q2⟩ => ⟨q1, q2.below⟩
      unfold aggV at CF1
      generalize fndV l y1 = fv at *
      obtain ⟨f1, f2, f3⟩ := fv
      dsimp only at CF1
      cases hh : hasK l y1 with
      | true =>
        have e1 : addEN L (x1, x2) (y1, y2, y3) = 4 := by unfold addEN; rw [hf, hrw]; simp [hc, hh]
        have e2 : addEL L (x1, x2) (y1, y2, y3) = L := by unfold addEL; rw [e1]; rfl
        rw [e1, e2]
        rw [hh] at CF1
        clear hf hrw e1 e2 hh hc
        go_enter Tryz.func48, Tryz.ntmps48
        go_wp2_with fail
        rw [← hW]
        clear hW
        refine CF.out.mono ?_
        rintro e w1 ⟨rfl, hb1⟩
        have B1 := Lib.hid hb1
        clear hb1 CF
        obtain ⟨⟨a0, a1, a2⟩, _, _, _⟩ := three_cells (blk_below v0.out B1.out)
        have hal := cell_lt a0
        go_wp2_with fail
        refine (CC.out _).mono ?_
        rintro e w2 ⟨rfl, hg2⟩
        have BB := Lib.hid (Bt B1.out hg2.below)
        clear hg2 CC a0 a1 a2 hal
        obtain ⟨⟨a0, a1, a2⟩, _, _, _⟩ := three_cells (blk_below v0.out BB.out)
        have hal := cell_lt a0
        obtain ⟨c0, f0⟩ := one_cell (blk_below HB.out BB.out)
        have hlp := cell_lt c0
        obtain ⟨d3, hgl⟩ := D3.out _ BB.out
        go_wp2_with fail
        refine wp_region_held_drew (S := (fun w' => Below (w2).heap.size (w2) w' ∧ ∀ b_1 o, b_1 < (w2).heap.size → w'.cell? ⟨b_1, o, none⟩ = (w2).cell? ⟨b_1, o, none⟩)) (by kernel_rfl) (keep0 _) (fun hHeld => ?_)
        (refine wpAnyH_take (i := 0) (v := ?_) rfl (by kernel_rfl) (by kernel_rfl) (by kernel_rfl) (fun _ _ _ h => h) (Or.inl ⟨by rfl, ?rt⟩) (by assumption) ?_; case rt => (intro w hSw; (try dsimp only at hSw); go_simp; (try with_reducible rfl))); (try simp only [Act.put, List.getElem_toArray, List.getElem_cons_succ, List.getElem_cons_zero, List.setIfInBounds_toArray, List.set_cons_zero, List.set_cons_succ])
        (refine wpAnyH_take (i := 1) (v := ?_) rfl (by kernel_rfl) (by kernel_rfl) (by kernel_rfl) (fun _ _ _ h => h) (Or.inl ⟨by rfl, ?rt⟩) (by assumption) ?_; case rt => (intro w hSw; (try dsimp only at hSw); go_simp; (try with_reducible rfl))); (try simp only [Act.put, List.getElem_toArray, List.getElem_cons_succ, List.getElem_cons_zero, List.setIfInBounds_toArray, List.set_cons_zero, List.set_cons_succ])
        (refine wpAnyH_take (i := 2) (v := ?_) rfl (by kernel_rfl) (by kernel_rfl) (by kernel_rfl) (fun _ _ _ h => h) (Or.inl ⟨by rfl, ?rt⟩) (by assumption) ?_; case rt => (intro w hSw; (try dsimp only at hSw); go_simp; (try with_reducible rfl))); (try simp only [Act.put, List.getElem_toArray, List.getElem_cons_succ, List.getElem_cons_zero, List.setIfInBounds_toArray, List.set_cons_zero, List.set_cons_succ])
        (refine wpAnyH_take (i := 3) (v := ?_) rfl (by kernel_rfl) (by kernel_rfl) (by kernel_rfl) (fun _ _ _ h => h) (Or.inl ⟨by rfl, ?rt⟩) (by assumption) ?_; case rt => (intro w hSw; (try dsimp only at hSw); go_simp; (try with_reducible rfl))); (try simp only [Act.put, List.getElem_toArray, List.getElem_cons_succ, List.getElem_cons_zero, List.setIfInBounds_toArray, List.set_cons_zero, List.set_cons_succ])
        (refine wpAnyH_take (i := 4) (v := ?_) rfl (by kernel_rfl) (by kernel_rfl) (by kernel_rfl) (fun _ _ _ h => h) (Or.inl ⟨by rfl, ?rt⟩) (by assumption) ?_; case rt => (intro w hSw; (try dsimp only at hSw); go_simp; (try with_reducible rfl))); (try simp only [Act.put, List.getElem_toArray, List.getElem_cons_succ, List.getElem_cons_zero, List.setIfInBounds_toArray, List.set_cons_zero, List.set_cons_succ])
        (refine wpAnyH_take (i := 5) (v := ?_) rfl (by kernel_rfl) (by kernel_rfl) (by kernel_rfl) (fun _ _ _ h => h) (Or.inl ⟨by rfl, ?rt⟩) (by assumption) ?_; case rt => (intro w hSw; (try dsimp only at hSw); go_simp; (try with_reducible rfl))); (try simp only [Act.put, List.getElem_toArray, List.getElem_cons_succ, List.getElem_cons_zero, List.setIfInBounds_toArray, List.set_cons_zero, List.set_cons_succ])
        (refine wpAnyH_take (i := 6) (v := ?_) rfl (by kernel_rfl) (by kernel_rfl) (by kernel_rfl) (fun _ _ _ h => h) (Or.inl ⟨by rfl, ?rt⟩) (by assumption) ?_; case rt => (intro w hSw; (try dsimp only at hSw); go_simp; (try with_reducible rfl))); (try simp only [Act.put, List.getElem_toArray, List.getElem_cons_succ, List.getElem_cons_zero, List.setIfInBounds_toArray, List.set_cons_zero, List.set_cons_succ])
        (refine wpAnyH_take (i := 7) (v := ?_) rfl (by kernel_rfl) (by kernel_rfl) (by kernel_rfl) (fun _ _ _ h => h) (Or.inl ⟨by rfl, ?rt⟩) (by assumption) ?_; case rt => (intro w hSw; (try dsimp only at hSw); go_simp; (try with_reducible rfl))); (try simp only [Act.put, List.getElem_toArray, List.getElem_cons_succ, List.getElem_cons_zero, List.setIfInBounds_toArray, List.set_cons_zero, List.set_cons_succ])
        (refine wpAnyH_take (i := 8) (v := ?_) rfl (by kernel_rfl) (by kernel_rfl) (by kernel_rfl) (fun _ _ _ h => h) (Or.inl ⟨by rfl, ?rt⟩) (by assumption) ?_; case rt => (intro w hSw; (try dsimp only at hSw); go_simp; (try with_reducible rfl))); (try simp only [Act.put, List.getElem_toArray, List.getElem_cons_succ, List.getElem_cons_zero, List.setIfInBounds_toArray, List.set_cons_zero, List.set_cons_succ])
        (refine wpAnyH_take (i := 9) (v := ?_) rfl (by kernel_rfl) (by kernel_rfl) (by kernel_rfl) (fun _ _ _ h => h) (Or.inl ⟨by rfl, ?rt⟩) (by assumption) ?_; case rt => (intro w hSw; (try dsimp only at hSw); go_simp; (try with_reducible rfl))); (try simp only [Act.put, List.getElem_toArray, List.getElem_cons_succ, List.getElem_cons_zero, List.setIfInBounds_toArray, List.set_cons_zero, List.set_cons_succ])
        refine wpAnyH_ready (rs := [10, 14]) (by kernel_rfl) (by simp) ?_; refine (AllReadyH.cons rfl (fun K hK => ?_) (AllReadyH.cons rfl (fun K hK => ?_) AllReadyH.nil))
        · go_simp; refine (CF1.out _ (Bt BB.out (And.left (by assumption)))).mono ?_; rintro e w5 ⟨rfl, hb5⟩; refine hK.out _ _ (keepB (by assumption) hb5) (fun hHeld => ?_); clear hK K; (try simp only [Act.put, List.getElem_toArray, List.getElem_cons_succ, List.getElem_cons_zero, List.setIfInBounds_toArray, List.set_cons_zero, List.set_cons_succ]); have BC := Lib.hid hb5; clear hb5
          have hC := hHeld
          (refine wpAnyH_take (i := 11) (v := ?_) rfl (by kernel_rfl) (by kernel_rfl) (by kernel_rfl) (fun _ _ _ h => h) (Or.inl ⟨by rfl, ?rt⟩) (by assumption) ?_; case rt => (intro w hSw; (try dsimp only at hSw); go_simp; (try with_reducible rfl))); (try simp only [Act.put, List.getElem_toArray, List.getElem_cons_succ, List.getElem_cons_zero, List.setIfInBounds_toArray, List.set_cons_zero, List.set_cons_succ])
          (refine wpAnyH_take (i := 12) (v := ?_) rfl (by kernel_rfl) (by kernel_rfl) (by kernel_rfl) (fun _ _ _ h => h) (Or.inl ⟨by rfl, ?rt⟩) (by assumption) ?_; case rt => (intro w hSw; (try dsimp only at hSw); go_simp; (try with_reducible rfl))); (try simp only [Act.put, List.getElem_toArray, List.getElem_cons_succ, List.getElem_cons_zero, List.setIfInBounds_toArray, List.set_cons_zero, List.set_cons_succ])
          (refine wpAnyH_take (i := 13) (v := ?_) rfl (by kernel_rfl) (by kernel_rfl) (by kernel_rfl) (fun _ _ _ h => h) (Or.inl ⟨by rfl, ?rt⟩) (by assumption) ?_; case rt => (intro w hSw; (try dsimp only at hSw); go_simp; (try with_reducible rfl))); (try simp only [Act.put, List.getElem_toArray, List.getElem_cons_succ, List.getElem_cons_zero, List.setIfInBounds_toArray, List.set_cons_zero, List.set_cons_succ])
          refine wpAnyH_ready (rs := [14]) (by kernel_rfl) (by simp) ?_; refine (AllReadyH.cons rfl (fun K hK => ?_) AllReadyH.nil)
          go_simp; refine hK.out _ _ (keepA (by assumption) _) (fun hHeld => ?_); clear hK K; (try simp only [Act.put, List.getElem_toArray, List.getElem_cons_succ, List.getElem_cons_zero, List.setIfInBounds_toArray, List.set_cons_zero, List.set_cons_succ])
          have hw1 : w2.heap.size ≤ w5.heap.size := BC.out.size
          refine wpAnyH_ready (rs := [15]) (by kernel_rfl) (by simp) ?_; refine (AllReadyH.cons rfl (fun K hK => ?_) AllReadyH.nil)
          go_simp; refine hK.out _ _ (keepA hC _) (fun hHeld => ?_); clear hK K; (try simp only [Act.put, List.getElem_toArray, List.getElem_cons_succ, List.getElem_cons_zero, List.setIfInBounds_toArray, List.set_cons_zero, List.set_cons_succ])
          (refine wpAnyH_take (i := 16) (v := ?_) rfl (by kernel_rfl) (by kernel_rfl) (by kernel_rfl) (fun _ _ _ h => h) (Or.inl ⟨by rfl, ?rt⟩) (by assumption) ?_; case rt => (intro w hSw; (try dsimp only at hSw); go_simp; (try with_reducible rfl))); (try simp only [Act.put, List.getElem_toArray, List.getElem_cons_succ, List.getElem_cons_zero, List.setIfInBounds_toArray, List.set_cons_zero, List.set_cons_succ])
          refine wpAnyH_done (by kernel_rfl) ?_ _
          obtain ⟨wc, hwc⟩ : ∃ wc, RowKit.Below w2.heap.size w2 wc ∧ wc = _ := ⟨_, hHeld.1, rfl⟩
          rw [← hwc.2]
          have BX := Lib.hid (Bt BB.out hwc.1)
          clear hwc
          clear hHeld hC hw1 BC
          go_wp2
          go_ret
          exact ⟨rfl, refS_new HR.out (Bt B0.out BX.out)⟩
        · go_simp; refine hK.out _ _ (keepA (by assumption) _) (fun hHeld => ?_); clear hK K; (try simp only [Act.put, List.getElem_toArray, List.getElem_cons_succ, List.getElem_cons_zero, List.setIfInBounds_toArray, List.set_cons_zero, List.set_cons_succ])
          have zb := heap_alloc_new w2.drew (.cells #[.int .i64 0, .int .i64 0, .int .i64 0] 34)
          refine wpAnyH_ready (rs := [10]) (by kernel_rfl) (by simp) ?_; refine (AllReadyH.cons rfl (fun K hK => ?_) AllReadyH.nil)
          go_simp; refine (CF1.out _ (Bt BB.out (And.left (by assumption)))).mono ?_; rintro e w5 ⟨rfl, hb5⟩; refine hK.out _ _ (keepB (by assumption) hb5) (fun hHeld => ?_); clear hK K; (try simp only [Act.put, List.getElem_toArray, List.getElem_cons_succ, List.getElem_cons_zero, List.setIfInBounds_toArray, List.set_cons_zero, List.set_cons_succ]); have BC := Lib.hid hb5; clear hb5
          have zb1 := blk_below zb BC.out
          obtain ⟨⟨z1, z2, z3⟩, zf1, zf2, zf3⟩ := three_cells (pa := w2.heap.size) zb1
          have hlz : w2.heap.size < w5.heap.size := cell_lt z1
          (refine wpAnyH_take (i := 11) (v := ?_) rfl (by kernel_rfl) (by kernel_rfl) (by kernel_rfl) (fun _ _ _ h => h) (Or.inl ⟨by rfl, ?rt⟩) (by assumption) ?_; case rt => (intro w hSw; (try dsimp only at hSw); go_simp; (try with_reducible rfl))); (try simp only [Act.put, List.getElem_toArray, List.getElem_cons_succ, List.getElem_cons_zero, List.setIfInBounds_toArray, List.set_cons_zero, List.set_cons_succ])
          (refine wpAnyH_take (i := 12) (v := ?_) rfl (by kernel_rfl) (by kernel_rfl) (by kernel_rfl) (fun _ _ _ h => h) (Or.inl ⟨by rfl, ?rt⟩) (by assumption) ?_; case rt => (intro w hSw; (try dsimp only at hSw); go_simp; (try with_reducible rfl))); (try simp only [Act.put, List.getElem_toArray, List.getElem_cons_succ, List.getElem_cons_zero, List.setIfInBounds_toArray, List.set_cons_zero, List.set_cons_succ])
          (refine wpAnyH_take (i := 13) (v := ?_) rfl (by kernel_rfl) (by kernel_rfl) (by kernel_rfl) (fun _ _ _ h => h) (Or.inl ⟨by rfl, ?rt⟩) (by assumption) ?_; case rt => (intro w hSw; (try dsimp only at hSw); go_simp; (try with_reducible rfl))); (try simp only [Act.put, List.getElem_toArray, List.getElem_cons_succ, List.getElem_cons_zero, List.setIfInBounds_toArray, List.set_cons_zero, List.set_cons_succ])
          refine wpAnyH_ready (rs := [15]) (by kernel_rfl) (by simp) ?_; refine (AllReadyH.cons rfl (fun K hK => ?_) AllReadyH.nil)
          go_simp; refine hK.out _ _ (keepS3 (by assumption) (Nat.le_refl _) _ _ _) (fun hHeld => ?_); clear hK K; (try simp only [Act.put, List.getElem_toArray, List.getElem_cons_succ, List.getElem_cons_zero, List.setIfInBounds_toArray, List.set_cons_zero, List.set_cons_succ])
          (refine wpAnyH_take (i := 16) (v := ?_) rfl (by kernel_rfl) (by kernel_rfl) (by kernel_rfl) (fun _ _ _ h => h) (Or.inl ⟨by rfl, ?rt⟩) (by assumption) ?_; case rt => (intro w hSw; (try dsimp only at hSw); go_simp; (try with_reducible rfl))); (try simp only [Act.put, List.getElem_toArray, List.getElem_cons_succ, List.getElem_cons_zero, List.setIfInBounds_toArray, List.set_cons_zero, List.set_cons_succ])
          refine wpAnyH_done (by kernel_rfl) ?_ _
          obtain ⟨wc, hwc⟩ : ∃ wc, RowKit.Below w2.heap.size w2 wc ∧ wc = _ := ⟨_, hHeld.1, rfl⟩
          rw [← hwc.2]
          have BX := Lib.hid (Bt BB.out hwc.1)
          clear hwc
          clear hHeld zb zb1 z1 z2 z3 zf1 zf2 zf3 hlz BC
          go_wp2
          go_ret
          exact ⟨rfl, refS_new HR.out (Bt B0.out BX.out)⟩
      | false =>
        have e1 : addEN L (x1, x2) (y1, y2, y3) = moveEN L (x1, x2) (putV l (y1, y2, y3)) := by unfold addEN; rw [hf, hrw]; simp [hc, hh]
        have e2 : addEL L (x1, x2) (y1, y2, y3) = moveEL L (x1, x2) (putV l (y1, y2, y3)) := by unfold addEL moveEL; rw [e1, hrw]
        rw [e1, e2]
        rw [hh] at CF1
        obtain ⟨PL, hPL⟩ : ∃ PL, PL = putV l (y1, y2, y3) := ⟨_, rfl⟩
        have HPL := Lib.hid hPL
        have HPR := Lib.hid (show RightV PL by rw [hPL]; exact putV_right hrt hc)
        rw [← hPL]
        clear hPL
        have HC := Lib.hid hc
        have HT := Lib.hid hrt
        clear hf hrw e1 e2 hh hc hrt
        go_enter Tryz.func48, Tryz.ntmps48
        go_wp2_with fail
        rw [← hW]
        clear hW
        refine CF.out.mono ?_
        rintro e w1 ⟨rfl, hb1⟩
        have B1 := Lib.hid hb1
        clear hb1 CF
        obtain ⟨⟨a0, a1, a2⟩, _, _, _⟩ := three_cells (blk_below v0.out B1.out)
        have hal := cell_lt a0
        go_wp2_with fail
        refine (CC.out _).mono ?_
        rintro e w2 ⟨rfl, hg2⟩
        have BB := Lib.hid (Bt B1.out hg2.below)
        clear hg2 CC a0 a1 a2 hal
        obtain ⟨⟨a0, a1, a2⟩, _, _, _⟩ := three_cells (blk_below v0.out BB.out)
        have hal := cell_lt a0
        obtain ⟨c0, f0⟩ := one_cell (blk_below HB.out BB.out)
        have hlp := cell_lt c0
        obtain ⟨d3, hgl⟩ := D3.out _ BB.out
        go_wp2_with fail
        refine wp_region_held_drew (S := (fun w' => Below (w2).heap.size (w2) w' ∧ ∀ b_1 o, b_1 < (w2).heap.size → w'.cell? ⟨b_1, o, none⟩ = (w2).cell? ⟨b_1, o, none⟩)) (by kernel_rfl) (keep0 _) (fun hHeld => ?_)
        (refine wpAnyH_take (i := 0) (v := ?_) rfl (by kernel_rfl) (by kernel_rfl) (by kernel_rfl) (fun _ _ _ h => h) (Or.inl ⟨by rfl, ?rt⟩) (by assumption) ?_; case rt => (intro w hSw; (try dsimp only at hSw); go_simp; (try with_reducible rfl))); (try simp only [Act.put, List.getElem_toArray, List.getElem_cons_succ, List.getElem_cons_zero, List.setIfInBounds_toArray, List.set_cons_zero, List.set_cons_succ])
        (refine wpAnyH_take (i := 1) (v := ?_) rfl (by kernel_rfl) (by kernel_rfl) (by kernel_rfl) (fun _ _ _ h => h) (Or.inl ⟨by rfl, ?rt⟩) (by assumption) ?_; case rt => (intro w hSw; (try dsimp only at hSw); go_simp; (try with_reducible rfl))); (try simp only [Act.put, List.getElem_toArray, List.getElem_cons_succ, List.getElem_cons_zero, List.setIfInBounds_toArray, List.set_cons_zero, List.set_cons_succ])
        (refine wpAnyH_take (i := 2) (v := ?_) rfl (by kernel_rfl) (by kernel_rfl) (by kernel_rfl) (fun _ _ _ h => h) (Or.inl ⟨by rfl, ?rt⟩) (by assumption) ?_; case rt => (intro w hSw; (try dsimp only at hSw); go_simp; (try with_reducible rfl))); (try simp only [Act.put, List.getElem_toArray, List.getElem_cons_succ, List.getElem_cons_zero, List.setIfInBounds_toArray, List.set_cons_zero, List.set_cons_succ])
        (refine wpAnyH_take (i := 3) (v := ?_) rfl (by kernel_rfl) (by kernel_rfl) (by kernel_rfl) (fun _ _ _ h => h) (Or.inl ⟨by rfl, ?rt⟩) (by assumption) ?_; case rt => (intro w hSw; (try dsimp only at hSw); go_simp; (try with_reducible rfl))); (try simp only [Act.put, List.getElem_toArray, List.getElem_cons_succ, List.getElem_cons_zero, List.setIfInBounds_toArray, List.set_cons_zero, List.set_cons_succ])
        (refine wpAnyH_take (i := 4) (v := ?_) rfl (by kernel_rfl) (by kernel_rfl) (by kernel_rfl) (fun _ _ _ h => h) (Or.inl ⟨by rfl, ?rt⟩) (by assumption) ?_; case rt => (intro w hSw; (try dsimp only at hSw); go_simp; (try with_reducible rfl))); (try simp only [Act.put, List.getElem_toArray, List.getElem_cons_succ, List.getElem_cons_zero, List.setIfInBounds_toArray, List.set_cons_zero, List.set_cons_succ])
        (refine wpAnyH_take (i := 5) (v := ?_) rfl (by kernel_rfl) (by kernel_rfl) (by kernel_rfl) (fun _ _ _ h => h) (Or.inl ⟨by rfl, ?rt⟩) (by assumption) ?_; case rt => (intro w hSw; (try dsimp only at hSw); go_simp; (try with_reducible rfl))); (try simp only [Act.put, List.getElem_toArray, List.getElem_cons_succ, List.getElem_cons_zero, List.setIfInBounds_toArray, List.set_cons_zero, List.set_cons_succ])
        (refine wpAnyH_take (i := 6) (v := ?_) rfl (by kernel_rfl) (by kernel_rfl) (by kernel_rfl) (fun _ _ _ h => h) (Or.inl ⟨by rfl, ?rt⟩) (by assumption) ?_; case rt => (intro w hSw; (try dsimp only at hSw); go_simp; (try with_reducible rfl))); (try simp only [Act.put, List.getElem_toArray, List.getElem_cons_succ, List.getElem_cons_zero, List.setIfInBounds_toArray, List.set_cons_zero, List.set_cons_succ])
        (refine wpAnyH_take (i := 7) (v := ?_) rfl (by kernel_rfl) (by kernel_rfl) (by kernel_rfl) (fun _ _ _ h => h) (Or.inl ⟨by rfl, ?rt⟩) (by assumption) ?_; case rt => (intro w hSw; (try dsimp only at hSw); go_simp; (try with_reducible rfl))); (try simp only [Act.put, List.getElem_toArray, List.getElem_cons_succ, List.getElem_cons_zero, List.setIfInBounds_toArray, List.set_cons_zero, List.set_cons_succ])
        (refine wpAnyH_take (i := 8) (v := ?_) rfl (by kernel_rfl) (by kernel_rfl) (by kernel_rfl) (fun _ _ _ h => h) (Or.inl ⟨by rfl, ?rt⟩) (by assumption) ?_; case rt => (intro w hSw; (try dsimp only at hSw); go_simp; (try with_reducible rfl))); (try simp only [Act.put, List.getElem_toArray, List.getElem_cons_succ, List.getElem_cons_zero, List.setIfInBounds_toArray, List.set_cons_zero, List.set_cons_succ])
        (refine wpAnyH_take (i := 9) (v := ?_) rfl (by kernel_rfl) (by kernel_rfl) (by kernel_rfl) (fun _ _ _ h => h) (Or.inl ⟨by rfl, ?rt⟩) (by assumption) ?_; case rt => (intro w hSw; (try dsimp only at hSw); go_simp; (try with_reducible rfl))); (try simp only [Act.put, List.getElem_toArray, List.getElem_cons_succ, List.getElem_cons_zero, List.setIfInBounds_toArray, List.set_cons_zero, List.set_cons_succ])
        refine wpAnyH_ready (rs := [10, 14]) (by kernel_rfl) (by simp) ?_; refine (AllReadyH.cons rfl (fun K hK => ?_) (AllReadyH.cons rfl (fun K hK => ?_) AllReadyH.nil))
        · go_simp; refine (CF1.out _ (Bt BB.out (And.left (by assumption)))).mono ?_; rintro e w5 ⟨rfl, hb5⟩; refine hK.out _ _ (keepB (by assumption) hb5) (fun hHeld => ?_); clear hK K; (try simp only [Act.put, List.getElem_toArray, List.getElem_cons_succ, List.getElem_cons_zero, List.setIfInBounds_toArray, List.set_cons_zero, List.set_cons_succ]); have BC := Lib.hid hb5; clear hb5
          have hC := hHeld
          (refine wpAnyH_take (i := 11) (v := ?_) rfl (by kernel_rfl) (by kernel_rfl) (by kernel_rfl) (fun _ _ _ h => h) (Or.inl ⟨by rfl, ?rt⟩) (by assumption) ?_; case rt => (intro w hSw; (try dsimp only at hSw); go_simp; (try with_reducible rfl))); (try simp only [Act.put, List.getElem_toArray, List.getElem_cons_succ, List.getElem_cons_zero, List.setIfInBounds_toArray, List.set_cons_zero, List.set_cons_succ])
          (refine wpAnyH_take (i := 12) (v := ?_) rfl (by kernel_rfl) (by kernel_rfl) (by kernel_rfl) (fun _ _ _ h => h) (Or.inl ⟨by rfl, ?rt⟩) (by assumption) ?_; case rt => (intro w hSw; (try dsimp only at hSw); go_simp; (try with_reducible rfl))); (try simp only [Act.put, List.getElem_toArray, List.getElem_cons_succ, List.getElem_cons_zero, List.setIfInBounds_toArray, List.set_cons_zero, List.set_cons_succ])
          (refine wpAnyH_take (i := 13) (v := ?_) rfl (by kernel_rfl) (by kernel_rfl) (by kernel_rfl) (fun _ _ _ h => h) (Or.inl ⟨by rfl, ?rt⟩) (by assumption) ?_; case rt => (intro w hSw; (try dsimp only at hSw); go_simp; (try with_reducible rfl))); (try simp only [Act.put, List.getElem_toArray, List.getElem_cons_succ, List.getElem_cons_zero, List.setIfInBounds_toArray, List.set_cons_zero, List.set_cons_succ])
          refine wpAnyH_ready (rs := [14]) (by kernel_rfl) (by simp) ?_; refine (AllReadyH.cons rfl (fun K hK => ?_) AllReadyH.nil)
          go_simp; refine hK.out _ _ (keepA (by assumption) _) (fun hHeld => ?_); clear hK K; (try simp only [Act.put, List.getElem_toArray, List.getElem_cons_succ, List.getElem_cons_zero, List.setIfInBounds_toArray, List.set_cons_zero, List.set_cons_succ])
          have hw1 : w2.heap.size ≤ w5.heap.size := BC.out.size
          refine wpAnyH_ready (rs := [15]) (by kernel_rfl) (by simp) ?_; refine (AllReadyH.cons rfl (fun K hK => ?_) AllReadyH.nil)
          go_simp; refine hK.out _ _ (keepA hC _) (fun hHeld => ?_); clear hK K; (try simp only [Act.put, List.getElem_toArray, List.getElem_cons_succ, List.getElem_cons_zero, List.setIfInBounds_toArray, List.set_cons_zero, List.set_cons_succ])
          (refine wpAnyH_take (i := 16) (v := ?_) rfl (by kernel_rfl) (by kernel_rfl) (by kernel_rfl) (fun _ _ _ h => h) (Or.inl ⟨by rfl, ?rt⟩) (by assumption) ?_; case rt => (intro w hSw; (try dsimp only at hSw); go_simp; (try with_reducible rfl))); (try simp only [Act.put, List.getElem_toArray, List.getElem_cons_succ, List.getElem_cons_zero, List.setIfInBounds_toArray, List.set_cons_zero, List.set_cons_succ])
          refine wpAnyH_done (by kernel_rfl) ?_ _
          obtain ⟨wc, hwc⟩ : ∃ wc, RowKit.Below w2.heap.size w2 wc ∧ wc = _ := ⟨_, hHeld.1, rfl⟩
          rw [← hwc.2]
          have BX := Lib.hid (Bt BB.out hwc.1)
          clear hwc
          clear hHeld hC hw1 BC
          clear a0 a1 a2 hal c0 f0 hlp d3 hgl
          obtain ⟨⟨a0, a1, a2⟩, _, _, _⟩ := three_cells (blk_below v0.out BX.out)
          have hal := cell_lt a0
          obtain ⟨c0, f0⟩ := one_cell (blk_below HB.out BX.out)
          have hlp := cell_lt c0
          obtain ⟨d3, hgl⟩ := D3.out _ BX.out
          have CP : Hid (∀ W1, RowKit.Below W.heap.size W W1 → Calls Tryz.prog 90 #[.slice sp l.length n0, .agg #[.int .i64 y1, .int .i64 y2, .int .i64 y3]] W1 fun e w' => (∃ v', e = .returned v' ∧ w'.ownsRow W1.heap.size 34 3 v' PL.length (flat encV PL)) ∧ RowKit.Below W1.heap.size W1 w') := fun W1 hb9 => by rw [HPL.out]; exact rput_own l _ y1 y2 y3 W1 (HSL.out.below hb9) HT.out HC.out (right_len8 HT.out)
          go_wp2_with fail
          go_region_law (first
            | (go_simp; go_at_call 90; refine (CP.out _ (Bt BX.out (Bd (Below.refl _ wc)))).mono ?_; rintro e w6 ⟨⟨vp, rfl, hop⟩, hb6⟩; have B6 := Lib.hid (Bt (Bd (Below.refl _ wc)) hb6); have OP := Lib.hid (show w6.ownsRow wc.heap.size 34 3 vp PL.length (flat encV PL) from hop); obtain ⟨pp, cp, rfl, _, _, _⟩ := row_val hop; clear hop hb6)
            | (go_simp; go_at_call 89; refine (rbecome2 HR.out HG.out hi2 HL3.out PL pp cp (Bt B0.out BX.out) B6.out OP.out HPR.out).mono ?_; rintro e w7 ⟨rfl, hR7, hT7⟩; have R7 := Lib.hid hR7; have T7 := Lib.hid hT7; clear hR7 hT7))
          all_goals
            go_wp2
            go_ret
            exact ⟨rfl, R7.out, T7.out⟩
        · go_simp; refine hK.out _ _ (keepA (by assumption) _) (fun hHeld => ?_); clear hK K; (try simp only [Act.put, List.getElem_toArray, List.getElem_cons_succ, List.getElem_cons_zero, List.setIfInBounds_toArray, List.set_cons_zero, List.set_cons_succ])
          have zb := heap_alloc_new w2.drew (.cells #[.int .i64 0, .int .i64 0, .int .i64 0] 34)
          refine wpAnyH_ready (rs := [10]) (by kernel_rfl) (by simp) ?_; refine (AllReadyH.cons rfl (fun K hK => ?_) AllReadyH.nil)
          go_simp; refine (CF1.out _ (Bt BB.out (And.left (by assumption)))).mono ?_; rintro e w5 ⟨rfl, hb5⟩; refine hK.out _ _ (keepB (by assumption) hb5) (fun hHeld => ?_); clear hK K; (try simp only [Act.put, List.getElem_toArray, List.getElem_cons_succ, List.getElem_cons_zero, List.setIfInBounds_toArray, List.set_cons_zero, List.set_cons_succ]); have BC := Lib.hid hb5; clear hb5
          have zb1 := blk_below zb BC.out
          obtain ⟨⟨z1, z2, z3⟩, zf1, zf2, zf3⟩ := three_cells (pa := w2.heap.size) zb1
          have hlz : w2.heap.size < w5.heap.size := cell_lt z1
          (refine wpAnyH_take (i := 11) (v := ?_) rfl (by kernel_rfl) (by kernel_rfl) (by kernel_rfl) (fun _ _ _ h => h) (Or.inl ⟨by rfl, ?rt⟩) (by assumption) ?_; case rt => (intro w hSw; (try dsimp only at hSw); go_simp; (try with_reducible rfl))); (try simp only [Act.put, List.getElem_toArray, List.getElem_cons_succ, List.getElem_cons_zero, List.setIfInBounds_toArray, List.set_cons_zero, List.set_cons_succ])
          (refine wpAnyH_take (i := 12) (v := ?_) rfl (by kernel_rfl) (by kernel_rfl) (by kernel_rfl) (fun _ _ _ h => h) (Or.inl ⟨by rfl, ?rt⟩) (by assumption) ?_; case rt => (intro w hSw; (try dsimp only at hSw); go_simp; (try with_reducible rfl))); (try simp only [Act.put, List.getElem_toArray, List.getElem_cons_succ, List.getElem_cons_zero, List.setIfInBounds_toArray, List.set_cons_zero, List.set_cons_succ])
          (refine wpAnyH_take (i := 13) (v := ?_) rfl (by kernel_rfl) (by kernel_rfl) (by kernel_rfl) (fun _ _ _ h => h) (Or.inl ⟨by rfl, ?rt⟩) (by assumption) ?_; case rt => (intro w hSw; (try dsimp only at hSw); go_simp; (try with_reducible rfl))); (try simp only [Act.put, List.getElem_toArray, List.getElem_cons_succ, List.getElem_cons_zero, List.setIfInBounds_toArray, List.set_cons_zero, List.set_cons_succ])
          refine wpAnyH_ready (rs := [15]) (by kernel_rfl) (by simp) ?_; refine (AllReadyH.cons rfl (fun K hK => ?_) AllReadyH.nil)
          go_simp; refine hK.out _ _ (keepS3 (by assumption) (Nat.le_refl _) _ _ _) (fun hHeld => ?_); clear hK K; (try simp only [Act.put, List.getElem_toArray, List.getElem_cons_succ, List.getElem_cons_zero, List.setIfInBounds_toArray, List.set_cons_zero, List.set_cons_succ])
          (refine wpAnyH_take (i := 16) (v := ?_) rfl (by kernel_rfl) (by kernel_rfl) (by kernel_rfl) (fun _ _ _ h => h) (Or.inl ⟨by rfl, ?rt⟩) (by assumption) ?_; case rt => (intro w hSw; (try dsimp only at hSw); go_simp; (try with_reducible rfl))); (try simp only [Act.put, List.getElem_toArray, List.getElem_cons_succ, List.getElem_cons_zero, List.setIfInBounds_toArray, List.set_cons_zero, List.set_cons_succ])
          refine wpAnyH_done (by kernel_rfl) ?_ _
          obtain ⟨wc, hwc⟩ : ∃ wc, RowKit.Below w2.heap.size w2 wc ∧ wc = _ := ⟨_, hHeld.1, rfl⟩
          rw [← hwc.2]
          have BX := Lib.hid (Bt BB.out hwc.1)
          clear hwc
          clear hHeld zb zb1 z1 z2 z3 zf1 zf2 zf3 hlz BC
          clear a0 a1 a2 hal c0 f0 hlp d3 hgl
          obtain ⟨⟨a0, a1, a2⟩, _, _, _⟩ := three_cells (blk_below v0.out BX.out)
          have hal := cell_lt a0
          obtain ⟨c0, f0⟩ := one_cell (blk_below HB.out BX.out)
          have hlp := cell_lt c0
          obtain ⟨d3, hgl⟩ := D3.out _ BX.out
          have CP : Hid (∀ W1, RowKit.Below W.heap.size W W1 → Calls Tryz.prog 90 #[.slice sp l.length n0, .agg #[.int .i64 y1, .int .i64 y2, .int .i64 y3]] W1 fun e w' => (∃ v', e = .returned v' ∧ w'.ownsRow W1.heap.size 34 3 v' PL.length (flat encV PL)) ∧ RowKit.Below W1.heap.size W1 w') := fun W1 hb9 => by rw [HPL.out]; exact rput_own l _ y1 y2 y3 W1 (HSL.out.below hb9) HT.out HC.out (right_len8 HT.out)
          go_wp2_with fail
          go_region_law (first
            | (go_simp; go_at_call 90; refine (CP.out _ (Bt BX.out (Bd (Below.refl _ wc)))).mono ?_; rintro e w6 ⟨⟨vp, rfl, hop⟩, hb6⟩; have B6 := Lib.hid (Bt (Bd (Below.refl _ wc)) hb6); have OP := Lib.hid (show w6.ownsRow wc.heap.size 34 3 vp PL.length (flat encV PL) from hop); obtain ⟨pp, cp, rfl, _, _, _⟩ := row_val hop; clear hop hb6)
            | (go_simp; go_at_call 89; refine (rbecome2 HR.out HG.out hi2 HL3.out PL pp cp (Bt B0.out BX.out) B6.out OP.out HPR.out).mono ?_; rintro e w7 ⟨rfl, hR7, hT7⟩; have R7 := Lib.hid hR7; have T7 := Lib.hid hT7; clear hR7 hT7))
          all_goals
            go_wp2
            go_ret
            exact ⟨rfl, R7.out, T7.out⟩
    · have hz : ¬ ((chk (y1, y2, y3) : Nat) : Int) = 0 := by omega
      have e1 : addEN L (x1, x2) (y1, y2, y3) = chk (y1, y2, y3) := by unfold addEN; rw [hf]; simp [hc]
      have e2 : addEL L (x1, x2) (y1, y2, y3) = L := by unfold addEL; rw [e1, if_neg hc]
      rw [e1, e2]
      generalize chk (y1, y2, y3) = cc at *
      have hcb : ((cc : Int) != 0) = true := bne_iff_ne.2 hz
      clear hf hrw e1 e2 hc hrt
      go_enter Tryz.func48, Tryz.ntmps48
      go_wp2_with fail
      rw [← hW]
      clear hW
      refine CF.out.mono ?_
      rintro e w1 ⟨rfl, hb1⟩
      have B1 := Lib.hid hb1
      clear hb1 CF
      obtain ⟨⟨a0, a1, a2⟩, _, _, _⟩ := three_cells (blk_below v0.out B1.out)
      have hal := cell_lt a0
      go_wp2_with fail
      refine (CC.out _).mono ?_
      rintro e w2 ⟨rfl, hg2⟩
      have BX := Lib.hid (Bt B1.out hg2.below)
      clear hg2
      go_wp2
      go_ret
      exact ⟨rfl, refS_new HR.out (Bt B0.out BX.out)⟩
end
end Go.Proofs.YtaehendpdfpibaaGreatDoor

/-
  The reference's store: Remove (written by mkra8.py).
-/
namespace Go.Proofs.YtaehendpdfpibaaGreatDoor
set_option linter.unusedSimpArgs false
set_option linter.unusedVariables false
open Go.RowKit Go.Sort Go.Lib Go.Shelf
section
variable {w w' W W6 : World} {N : Nat → Prop} {pr : Nat} {L : List En}
set_option maxHeartbeats 8000000 in
set_option maxRecDepth 100000 in
theorem rremoveS (h : RefS w N pr L) (hG : Good L) (x1 x2 k : Int) :
    Calls Tryz.prog 50 #[rsP pr, .agg #[.int .i64 x1, .int .i64 x2], .int .i64 k] w fun e w' => e = .returned (.int .i64 (remEN L (x1, x2) k : Nat)) ∧ RefS w' (New N w w') pr (remEL L (x1, x2) k) ∧ Tch (fun b => b = pr) w w' := by
  have HR := Lib.hid h
  have HG := Lib.hid hG
  obtain ⟨W, hW⟩ : ∃ W, W = w.alloc (.cells #[.int .i64 x1, .int .i64 x2] 31) := ⟨_, rfl⟩
  have B0 := Lib.hid (show RowKit.Below w.heap.size w W by rw [hW]; exact (by repeat (first | with_reducible exact Below.refl _ _ | with_reducible assumption | with_reducible apply Ba | with_reducible apply Bd | with_reducible apply Bn | with_reducible apply Bg | (with_reducible refine Bs ?_ (by first | (simp; done) | (simp; omega)) _) | (with_reducible refine Bt ?_ (by assumption)) | (with_reducible refine Bt ?_ (Gr.below (by assumption))))))
  have b0 := Lib.hid (show W.heap[w.heap.size]? = some (.cells #[.int .i64 x1, .int .i64 x2] 31 (0, 0)) by rw [hW]; exact heap_alloc_new w (.cells #[.int .i64 x1, .int .i64 x2] 31))
  have CF := Lib.hid (rfindS (h.below B0.out) x1 x2)
  have h0 := Lib.hid (h.below B0.out)
  clear h
  cases hf : fndE L (x1, x2) with
  | none =>
    have e1 : remEN L (x1, x2) k = 3 := by unfold remEN; rw [hf]; rfl
    have e2 : remEL L (x1, x2) k = L := by unfold remEL; rw [e1]; rfl
    rw [e1, e2]
    rw [fixE_none hf] at CF
    clear hf e1 e2
    go_enter Tryz.func50, Tryz.ntmps50
    go_wp2_with fail
    rw [← hW]
    clear hW
    refine CF.out.mono ?_
    rintro e w1 ⟨rfl, hb1⟩
    have B1 := Bt B0.out hb1
    go_wp2
    go_ret
    exact ⟨rfl, refS_new HR.out B1⟩
  | some l =>
    obtain ⟨i, hi1, hi2, hi3⟩ := fixE_some hf
    have hrw := rowE_of hf
    rw [hi1] at CF
    have hrt : RightV l := hG.right ((x1, x2), l) (by rw [← hi3, getElem!_pos L i hi2]; exact List.getElem_mem _)
    have h128 := hG.len
    obtain ⟨p, cap, N1, hb, hls, h1, h2, hNp, hN1⟩ := h0.out.open
    have HB := Lib.hid hb
    have hiz : (i : Int) < (L.length : Int) := by omega
    obtain ⟨g, o, sp, n0, rfl, hg, _, d1, d2, d3, hsl, hc1, hc2⟩ := hls.at hi2
    rw [hi3] at d1 d2 d3 hsl hc1
    dsimp only at d1 d2 d3 hsl hc1
    have D3 := Lib.hid (show ∀ W1, RowKit.Below W.heap.size W W1 → W1.cell? ⟨g, o + i * 3 + 2, none⟩ = some (.slice sp l.length n0) ∧ g < W1.heap.size from fun W1 hb9 => ⟨Bc hb9 hg d3, Bl hb9 hg⟩)
    have HSL := Lib.hid hsl.sl
    have HL3 := Lib.hid hi3
    clear hb hls hN1 hi1 hi3 hsl d1 d2 d3 hG
    have CF1 : Hid (∀ W1, RowKit.Below W.heap.size W W1 → Calls Tryz.prog 58 #[.slice sp l.length n0, .int .i64 k] W1 fun e w' => e = .returned (.tuple #[aggV (fndV l k), .bool (hasK l k)]) ∧ RowKit.Below W1.heap.size W1 w') := fun W1 hb9 => (rfind_call l _ k W1 (HSL.out.below hb9)).mono fun e w' ⟨q1, q2⟩ => ⟨q1, q2.below⟩
    unfold aggV at CF1
    generalize fndV l k = fv at *
    obtain ⟨f1, f2, f3⟩ := fv
    dsimp only at CF1
    cases hh : hasK l k with
    | false =>
      have e1 : remEN L (x1, x2) k = 5 := by unfold remEN; rw [hf, hrw]; simp [hh]
      have e2 : remEL L (x1, x2) k = L := by unfold remEL; rw [e1]; rfl
      rw [e1, e2]
      rw [hh] at CF1
      clear hf hrw e1 e2 hh
      go_enter Tryz.func50, Tryz.ntmps50
      go_wp2_with fail
      rw [← hW]
      clear hW
      refine CF.out.mono ?_
      rintro e w1 ⟨rfl, hb1⟩
      have B1 := Lib.hid hb1
      clear hb1 CF
      obtain ⟨c0, f0⟩ := one_cell (blk_below HB.out B1.out)
      have hlp := cell_lt c0
      obtain ⟨d3, hgl⟩ := D3.out _ B1.out
      go_wp2_with fail
      refine (CF1.out _ B1.out).mono ?_
      rintro e w2 ⟨rfl, hb2⟩
      have BX := Lib.hid (Ba (Bt B1.out hb2) (.cells #[.int .i64 f1, .int .i64 f2, .int .i64 f3] 34))
      clear hb2 CF1
      go_wp2
      go_ret
      exact ⟨rfl, refS_new HR.out (Bt B0.out BX.out)⟩
    | true =>
      have e1 : remEN L (x1, x2) k = moveEN L (x1, x2) (dropV l k) := by unfold remEN; rw [hf, hrw]; simp [hh]
      have e2 : remEL L (x1, x2) k = moveEL L (x1, x2) (dropV l k) := by unfold remEL moveEL; rw [e1, hrw]
      rw [e1, e2]
      rw [hh] at CF1
      obtain ⟨PL, hPL⟩ : ∃ PL, PL = dropV l k := ⟨_, rfl⟩
      have HPL := Lib.hid hPL
      have HPR := Lib.hid (show RightV PL by rw [hPL]; exact dropV_right k hrt)
      rw [← hPL]
      clear hPL
      have HT := Lib.hid hrt
      clear hf hrw e1 e2 hh hrt
      go_enter Tryz.func50, Tryz.ntmps50
      go_wp2_with fail
      rw [← hW]
      clear hW
      refine CF.out.mono ?_
      rintro e w1 ⟨rfl, hb1⟩
      have B1 := Lib.hid hb1
      clear hb1 CF
      obtain ⟨c0, f0⟩ := one_cell (blk_below HB.out B1.out)
      have hlp := cell_lt c0
      obtain ⟨d3, hgl⟩ := D3.out _ B1.out
      go_wp2_with fail
      refine (CF1.out _ B1.out).mono ?_
      rintro e w2 ⟨rfl, hb2⟩
      have B2 := Lib.hid (Bt B1.out hb2)
      have BX := Lib.hid (Ba (Bt B1.out hb2) (.cells #[.int .i64 f1, .int .i64 f2, .int .i64 f3] 34))
      obtain ⟨wc, hwc⟩ : ∃ wc, wc = w2.alloc (.cells #[.int .i64 f1, .int .i64 f2, .int .i64 f3] 34) := ⟨_, rfl⟩
      rw [← hwc] at BX
      clear hb2 CF1 c0 f0 hlp d3 hgl
      obtain ⟨c0, f0⟩ := one_cell (blk_below HB.out B2.out)
      have hlp := cell_lt c0
      obtain ⟨d3, hgl⟩ := D3.out _ B2.out
      have CP := Lib.hid (show Calls Tryz.prog 94 #[.slice sp l.length n0, .int .i64 k] wc fun e w' => ∃ v', e = .returned v' ∧ w'.ownsRow wc.heap.size 34 3 v' PL.length (flat encV PL) ∧ RowKit.Below wc.heap.size wc w' from by rw [HPL.out]; exact rdrop_call l _ k wc (HSL.out.below BX.out) (by have := right_len8 HT.out; omega))
      go_wp2_with fail
      rw [← hwc]
      clear hwc
      refine CP.out.mono ?_
      rintro e w6 ⟨vp, rfl, hop, hb6⟩
      have B6 := Lib.hid hb6
      have OP := Lib.hid hop
      obtain ⟨pp, cp, rfl, _, _, _⟩ := row_val hop
      clear hop hb6 CP c0 f0 hlp d3 hgl
      go_wp2_with fail
      refine (rbecome2 HR.out HG.out hi2 HL3.out PL pp cp (Bt B0.out BX.out) B6.out OP.out HPR.out).mono ?_
      rintro e w7 ⟨rfl, hR7, hT7⟩
      have R7 := Lib.hid hR7
      have T7 := Lib.hid hT7
      clear hR7 hT7
      go_wp2
      go_ret
      exact ⟨rfl, R7.out, T7.out⟩
end
end Go.Proofs.YtaehendpdfpibaaGreatDoor

/-
  The reference's store: Set (written by mkra8.py).
-/
namespace Go.Proofs.YtaehendpdfpibaaGreatDoor
set_option linter.unusedSimpArgs false
set_option linter.unusedVariables false
open Go.RowKit Go.Sort Go.Lib Go.Shelf
section
variable {w w' W W6 : World} {N : Nat → Prop} {pr : Nat} {L : List En}
set_option maxHeartbeats 8000000 in
set_option maxRecDepth 100000 in
theorem rsetS (h : RefS w N pr L) (hG : Good L) (x1 x2 y1 y2 y3 : Int) :
    Calls Tryz.prog 52 #[rsP pr, .agg #[.int .i64 x1, .int .i64 x2], .agg #[.int .i64 y1, .int .i64 y2, .int .i64 y3]] w fun e w' => e = .returned (.int .i64 (setEN L (x1, x2) (y1, y2, y3) : Nat)) ∧ RefS w' (New N w w') pr (setEL L (x1, x2) (y1, y2, y3)) ∧ Tch (fun b => b = pr) w w' := by
  have HR := Lib.hid h
  have HG := Lib.hid hG
  obtain ⟨W, hW⟩ : ∃ W, W = (w.alloc (.cells #[.int .i64 x1, .int .i64 x2] 31)).alloc (.cells #[.int .i64 y1, .int .i64 y2, .int .i64 y3] 34) := ⟨_, rfl⟩
  have B0 := Lib.hid (show RowKit.Below w.heap.size w W by rw [hW]; exact (by repeat (first | with_reducible exact Below.refl _ _ | with_reducible assumption | with_reducible apply Ba | with_reducible apply Bd | with_reducible apply Bn | with_reducible apply Bg | (with_reducible refine Bs ?_ (by first | (simp; done) | (simp; omega)) _) | (with_reducible refine Bt ?_ (by assumption)) | (with_reducible refine Bt ?_ (Gr.below (by assumption))))))
  have b0 := Lib.hid (show W.heap[w.heap.size]? = some (.cells #[.int .i64 x1, .int .i64 x2] 31 (0, 0)) by rw [hW]; exact blk_below (heap_alloc_new w (.cells #[.int .i64 x1, .int .i64 x2] 31)) (Ba (Below.refl _ _) (.cells #[.int .i64 y1, .int .i64 y2, .int .i64 y3] 34)))
  have v0 := Lib.hid (show W.heap[w.heap.size + 1]? = some (.cells #[.int .i64 y1, .int .i64 y2, .int .i64 y3] 34 (0, 0)) by rw [hW]; exact by have := heap_alloc_new (w.alloc (.cells #[.int .i64 x1, .int .i64 x2] 31)) (.cells #[.int .i64 y1, .int .i64 y2, .int .i64 y3] 34); rwa [show (w.alloc (.cells #[.int .i64 x1, .int .i64 x2] 31)).heap.size = w.heap.size + 1 by simp] at this)
  have CF := Lib.hid (rfindS (h.below B0.out) x1 x2)
  have h0 := Lib.hid (h.below B0.out)
  clear h
  cases hf : fndE L (x1, x2) with
  | none =>
    have e1 : setEN L (x1, x2) (y1, y2, y3) = 3 := by unfold setEN; rw [hf]; rfl
    have e2 : setEL L (x1, x2) (y1, y2, y3) = L := by unfold setEL; rw [e1]; rfl
    rw [e1, e2]
    rw [fixE_none hf] at CF
    clear hf e1 e2
    go_enter Tryz.func52, Tryz.ntmps52
    go_wp2_with fail
    rw [← hW]
    clear hW
    refine CF.out.mono ?_
    rintro e w1 ⟨rfl, hb1⟩
    have B1 := Bt B0.out hb1
    go_wp2
    go_ret
    exact ⟨rfl, refS_new HR.out B1⟩
  | some l =>
    obtain ⟨i, hi1, hi2, hi3⟩ := fixE_some hf
    have hrw := rowE_of hf
    rw [hi1] at CF
    have hrt : RightV l := hG.right ((x1, x2), l) (by rw [← hi3, getElem!_pos L i hi2]; exact List.getElem_mem _)
    have h128 := hG.len
    obtain ⟨p, cap, N1, hb, hls, h1, h2, hNp, hN1⟩ := h0.out.open
    have HB := Lib.hid hb
    have hiz : (i : Int) < (L.length : Int) := by omega
    obtain ⟨g, o, sp, n0, rfl, hg, _, d1, d2, d3, hsl, hc1, hc2⟩ := hls.at hi2
    rw [hi3] at d1 d2 d3 hsl hc1
    dsimp only at d1 d2 d3 hsl hc1
    have D3 := Lib.hid (show ∀ W1, RowKit.Below W.heap.size W W1 → W1.cell? ⟨g, o + i * 3 + 2, none⟩ = some (.slice sp l.length n0) ∧ g < W1.heap.size from fun W1 hb9 => ⟨Bc hb9 hg d3, Bl hb9 hg⟩)
    have HSL := Lib.hid hsl.sl
    have HL3 := Lib.hid hi3
    clear hb hls hN1 hi1 hi3 hsl d1 d2 d3 hG
    have CC := Lib.hid (fun W1 => rcheck_any (y1, y2, y3) W1)
    unfold aggV at CC
    have CF1 : Hid (∀ W1, RowKit.Below W.heap.size W W1 → Calls Tryz.prog 58 #[.slice sp l.length n0, .int .i64 y1] W1 fun e w' => e = .returned (.tuple #[aggV (fndV l y1), .bool (hasK l y1)]) ∧ RowKit.Below W1.heap.size W1 w') := fun W1 hb9 => (rfind_call l _ y1 W1 (HSL.out.below hb9)).mono fun e w' ⟨q1, q2⟩ => ⟨q1, q2.below⟩
    unfold aggV at CF1
    generalize fndV l y1 = fv at *
    obtain ⟨f1, f2, f3⟩ := fv
    dsimp only at CF1
    cases hh : hasK l y1 with
    | false =>
      have e1 : setEN L (x1, x2) (y1, y2, y3) = 5 := by unfold setEN; rw [hf, hrw]; simp [hh]
      have e2 : setEL L (x1, x2) (y1, y2, y3) = L := by unfold setEL; rw [e1]; rfl
      rw [e1, e2]
      rw [hh] at CF1
      clear hf hrw e1 e2 hh
      go_enter Tryz.func52, Tryz.ntmps52
      go_wp2_with fail
      rw [← hW]
      clear hW
      refine CF.out.mono ?_
      rintro e w1 ⟨rfl, hb1⟩
      have B1 := Lib.hid hb1
      clear hb1 CF
      have BB := Lib.hid B1.out
      obtain ⟨⟨a0, a1, a2⟩, _, _, _⟩ := three_cells (blk_below v0.out B1.out)
      have hal := cell_lt a0
      obtain ⟨c0, f0⟩ := one_cell (blk_below HB.out B1.out)
      have hlp := cell_lt c0
      obtain ⟨d3, hgl⟩ := D3.out _ B1.out
      go_wp2_with fail
      refine wp_region_held_drew (S := (fun w' => Below (w1).heap.size (w1) w' ∧ ∀ b_1 o, b_1 < (w1).heap.size → w'.cell? ⟨b_1, o, none⟩ = (w1).cell? ⟨b_1, o, none⟩)) (by kernel_rfl) (keep0 _) (fun hHeld => ?_)
      (refine wpAnyH_take (i := 0) (v := ?_) rfl (by kernel_rfl) (by kernel_rfl) (by kernel_rfl) (fun _ _ _ h => h) (Or.inl ⟨by rfl, ?rt⟩) (by assumption) ?_; case rt => (intro w hSw; (try dsimp only at hSw); go_simp; (try with_reducible rfl))); (try simp only [Act.put, List.getElem_toArray, List.getElem_cons_succ, List.getElem_cons_zero, List.setIfInBounds_toArray, List.set_cons_zero, List.set_cons_succ])
      (refine wpAnyH_take (i := 1) (v := ?_) rfl (by kernel_rfl) (by kernel_rfl) (by kernel_rfl) (fun _ _ _ h => h) (Or.inl ⟨by rfl, ?rt⟩) (by assumption) ?_; case rt => (intro w hSw; (try dsimp only at hSw); go_simp; (try with_reducible rfl))); (try simp only [Act.put, List.getElem_toArray, List.getElem_cons_succ, List.getElem_cons_zero, List.setIfInBounds_toArray, List.set_cons_zero, List.set_cons_succ])
      (refine wpAnyH_take (i := 2) (v := ?_) rfl (by kernel_rfl) (by kernel_rfl) (by kernel_rfl) (fun _ _ _ h => h) (Or.inl ⟨by rfl, ?rt⟩) (by assumption) ?_; case rt => (intro w hSw; (try dsimp only at hSw); go_simp; (try with_reducible rfl))); (try simp only [Act.put, List.getElem_toArray, List.getElem_cons_succ, List.getElem_cons_zero, List.setIfInBounds_toArray, List.set_cons_zero, List.set_cons_succ])
      (refine wpAnyH_take (i := 3) (v := ?_) rfl (by kernel_rfl) (by kernel_rfl) (by kernel_rfl) (fun _ _ _ h => h) (Or.inl ⟨by rfl, ?rt⟩) (by assumption) ?_; case rt => (intro w hSw; (try dsimp only at hSw); go_simp; (try with_reducible rfl))); (try simp only [Act.put, List.getElem_toArray, List.getElem_cons_succ, List.getElem_cons_zero, List.setIfInBounds_toArray, List.set_cons_zero, List.set_cons_succ])
      (refine wpAnyH_take (i := 4) (v := ?_) rfl (by kernel_rfl) (by kernel_rfl) (by kernel_rfl) (fun _ _ _ h => h) (Or.inl ⟨by rfl, ?rt⟩) (by assumption) ?_; case rt => (intro w hSw; (try dsimp only at hSw); go_simp; (try with_reducible rfl))); (try simp only [Act.put, List.getElem_toArray, List.getElem_cons_succ, List.getElem_cons_zero, List.setIfInBounds_toArray, List.set_cons_zero, List.set_cons_succ])
      (refine wpAnyH_take (i := 5) (v := ?_) rfl (by kernel_rfl) (by kernel_rfl) (by kernel_rfl) (fun _ _ _ h => h) (Or.inl ⟨by rfl, ?rt⟩) (by assumption) ?_; case rt => (intro w hSw; (try dsimp only at hSw); go_simp; (try with_reducible rfl))); (try simp only [Act.put, List.getElem_toArray, List.getElem_cons_succ, List.getElem_cons_zero, List.setIfInBounds_toArray, List.set_cons_zero, List.set_cons_succ])
      (refine wpAnyH_take (i := 6) (v := ?_) rfl (by kernel_rfl) (by kernel_rfl) (by kernel_rfl) (fun _ _ _ h => h) (Or.inl ⟨by rfl, ?rt⟩) (by assumption) ?_; case rt => (intro w hSw; (try dsimp only at hSw); go_simp; (try with_reducible rfl))); (try simp only [Act.put, List.getElem_toArray, List.getElem_cons_succ, List.getElem_cons_zero, List.setIfInBounds_toArray, List.set_cons_zero, List.set_cons_succ])
      (refine wpAnyH_take (i := 7) (v := ?_) rfl (by kernel_rfl) (by kernel_rfl) (by kernel_rfl) (fun _ _ _ h => h) (Or.inl ⟨by rfl, ?rt⟩) (by assumption) ?_; case rt => (intro w hSw; (try dsimp only at hSw); go_simp; (try with_reducible rfl))); (try simp only [Act.put, List.getElem_toArray, List.getElem_cons_succ, List.getElem_cons_zero, List.setIfInBounds_toArray, List.set_cons_zero, List.set_cons_succ])
      (refine wpAnyH_take (i := 8) (v := ?_) rfl (by kernel_rfl) (by kernel_rfl) (by kernel_rfl) (fun _ _ _ h => h) (Or.inl ⟨by rfl, ?rt⟩) (by assumption) ?_; case rt => (intro w hSw; (try dsimp only at hSw); go_simp; (try with_reducible rfl))); (try simp only [Act.put, List.getElem_toArray, List.getElem_cons_succ, List.getElem_cons_zero, List.setIfInBounds_toArray, List.set_cons_zero, List.set_cons_succ])
      (refine wpAnyH_take (i := 9) (v := ?_) rfl (by kernel_rfl) (by kernel_rfl) (by kernel_rfl) (fun _ _ _ h => h) (Or.inl ⟨by rfl, ?rt⟩) (by assumption) ?_; case rt => (intro w hSw; (try dsimp only at hSw); go_simp; (try with_reducible rfl))); (try simp only [Act.put, List.getElem_toArray, List.getElem_cons_succ, List.getElem_cons_zero, List.setIfInBounds_toArray, List.set_cons_zero, List.set_cons_succ])
      refine wpAnyH_ready (rs := [10, 14]) (by kernel_rfl) (by simp) ?_; refine (AllReadyH.cons rfl (fun K hK => ?_) (AllReadyH.cons rfl (fun K hK => ?_) AllReadyH.nil))
      · go_simp; refine (CF1.out _ (Bt BB.out (And.left (by assumption)))).mono ?_; rintro e w5 ⟨rfl, hb5⟩; refine hK.out _ _ (keepB (by assumption) hb5) (fun hHeld => ?_); clear hK K; (try simp only [Act.put, List.getElem_toArray, List.getElem_cons_succ, List.getElem_cons_zero, List.setIfInBounds_toArray, List.set_cons_zero, List.set_cons_succ]); have BC := Lib.hid hb5; clear hb5
        have hC := hHeld
        (refine wpAnyH_take (i := 11) (v := ?_) rfl (by kernel_rfl) (by kernel_rfl) (by kernel_rfl) (fun _ _ _ h => h) (Or.inl ⟨by rfl, ?rt⟩) (by assumption) ?_; case rt => (intro w hSw; (try dsimp only at hSw); go_simp; (try with_reducible rfl))); (try simp only [Act.put, List.getElem_toArray, List.getElem_cons_succ, List.getElem_cons_zero, List.setIfInBounds_toArray, List.set_cons_zero, List.set_cons_succ])
        (refine wpAnyH_take (i := 12) (v := ?_) rfl (by kernel_rfl) (by kernel_rfl) (by kernel_rfl) (fun _ _ _ h => h) (Or.inl ⟨by rfl, ?rt⟩) (by assumption) ?_; case rt => (intro w hSw; (try dsimp only at hSw); go_simp; (try with_reducible rfl))); (try simp only [Act.put, List.getElem_toArray, List.getElem_cons_succ, List.getElem_cons_zero, List.setIfInBounds_toArray, List.set_cons_zero, List.set_cons_succ])
        (refine wpAnyH_take (i := 13) (v := ?_) rfl (by kernel_rfl) (by kernel_rfl) (by kernel_rfl) (fun _ _ _ h => h) (Or.inl ⟨by rfl, ?rt⟩) (by assumption) ?_; case rt => (intro w hSw; (try dsimp only at hSw); go_simp; (try with_reducible rfl))); (try simp only [Act.put, List.getElem_toArray, List.getElem_cons_succ, List.getElem_cons_zero, List.setIfInBounds_toArray, List.set_cons_zero, List.set_cons_succ])
        refine wpAnyH_ready (rs := [14]) (by kernel_rfl) (by simp) ?_; refine (AllReadyH.cons rfl (fun K hK => ?_) AllReadyH.nil)
        go_simp; refine hK.out _ _ (keepA (by assumption) _) (fun hHeld => ?_); clear hK K; (try simp only [Act.put, List.getElem_toArray, List.getElem_cons_succ, List.getElem_cons_zero, List.setIfInBounds_toArray, List.set_cons_zero, List.set_cons_succ])
        have hw1 : w1.heap.size ≤ w5.heap.size := BC.out.size
        refine wpAnyH_ready (rs := [15]) (by kernel_rfl) (by simp) ?_; refine (AllReadyH.cons rfl (fun K hK => ?_) AllReadyH.nil)
        go_simp; refine hK.out _ _ (keepA hC _) (fun hHeld => ?_); clear hK K; (try simp only [Act.put, List.getElem_toArray, List.getElem_cons_succ, List.getElem_cons_zero, List.setIfInBounds_toArray, List.set_cons_zero, List.set_cons_succ])
        (refine wpAnyH_take (i := 16) (v := ?_) rfl (by kernel_rfl) (by kernel_rfl) (by kernel_rfl) (fun _ _ _ h => h) (Or.inl ⟨by rfl, ?rt⟩) (by assumption) ?_; case rt => (intro w hSw; (try dsimp only at hSw); go_simp; (try with_reducible rfl))); (try simp only [Act.put, List.getElem_toArray, List.getElem_cons_succ, List.getElem_cons_zero, List.setIfInBounds_toArray, List.set_cons_zero, List.set_cons_succ])
        refine wpAnyH_done (by kernel_rfl) ?_ _
        obtain ⟨wc, hwc⟩ : ∃ wc, RowKit.Below w1.heap.size w1 wc ∧ wc = _ := ⟨_, hHeld.1, rfl⟩
        rw [← hwc.2]
        have BX := Lib.hid (Bt BB.out hwc.1)
        clear hwc
        clear hHeld hC hw1 BC
        go_wp2
        go_ret
        exact ⟨rfl, refS_new HR.out (Bt B0.out BX.out)⟩
      · go_simp; refine hK.out _ _ (keepA (by assumption) _) (fun hHeld => ?_); clear hK K; (try simp only [Act.put, List.getElem_toArray, List.getElem_cons_succ, List.getElem_cons_zero, List.setIfInBounds_toArray, List.set_cons_zero, List.set_cons_succ])
        have zb := heap_alloc_new w1.drew (.cells #[.int .i64 0, .int .i64 0, .int .i64 0] 34)
        refine wpAnyH_ready (rs := [10]) (by kernel_rfl) (by simp) ?_; refine (AllReadyH.cons rfl (fun K hK => ?_) AllReadyH.nil)
        go_simp; refine (CF1.out _ (Bt BB.out (And.left (by assumption)))).mono ?_; rintro e w5 ⟨rfl, hb5⟩; refine hK.out _ _ (keepB (by assumption) hb5) (fun hHeld => ?_); clear hK K; (try simp only [Act.put, List.getElem_toArray, List.getElem_cons_succ, List.getElem_cons_zero, List.setIfInBounds_toArray, List.set_cons_zero, List.set_cons_succ]); have BC := Lib.hid hb5; clear hb5
        have zb1 := blk_below zb BC.out
        obtain ⟨⟨z1, z2, z3⟩, zf1, zf2, zf3⟩ := three_cells (pa := w1.heap.size) zb1
        have hlz : w1.heap.size < w5.heap.size := cell_lt z1
        (refine wpAnyH_take (i := 11) (v := ?_) rfl (by kernel_rfl) (by kernel_rfl) (by kernel_rfl) (fun _ _ _ h => h) (Or.inl ⟨by rfl, ?rt⟩) (by assumption) ?_; case rt => (intro w hSw; (try dsimp only at hSw); go_simp; (try with_reducible rfl))); (try simp only [Act.put, List.getElem_toArray, List.getElem_cons_succ, List.getElem_cons_zero, List.setIfInBounds_toArray, List.set_cons_zero, List.set_cons_succ])
        (refine wpAnyH_take (i := 12) (v := ?_) rfl (by kernel_rfl) (by kernel_rfl) (by kernel_rfl) (fun _ _ _ h => h) (Or.inl ⟨by rfl, ?rt⟩) (by assumption) ?_; case rt => (intro w hSw; (try dsimp only at hSw); go_simp; (try with_reducible rfl))); (try simp only [Act.put, List.getElem_toArray, List.getElem_cons_succ, List.getElem_cons_zero, List.setIfInBounds_toArray, List.set_cons_zero, List.set_cons_succ])
        (refine wpAnyH_take (i := 13) (v := ?_) rfl (by kernel_rfl) (by kernel_rfl) (by kernel_rfl) (fun _ _ _ h => h) (Or.inl ⟨by rfl, ?rt⟩) (by assumption) ?_; case rt => (intro w hSw; (try dsimp only at hSw); go_simp; (try with_reducible rfl))); (try simp only [Act.put, List.getElem_toArray, List.getElem_cons_succ, List.getElem_cons_zero, List.setIfInBounds_toArray, List.set_cons_zero, List.set_cons_succ])
        refine wpAnyH_ready (rs := [15]) (by kernel_rfl) (by simp) ?_; refine (AllReadyH.cons rfl (fun K hK => ?_) AllReadyH.nil)
        go_simp; refine hK.out _ _ (keepS3 (by assumption) (Nat.le_refl _) _ _ _) (fun hHeld => ?_); clear hK K; (try simp only [Act.put, List.getElem_toArray, List.getElem_cons_succ, List.getElem_cons_zero, List.setIfInBounds_toArray, List.set_cons_zero, List.set_cons_succ])
        (refine wpAnyH_take (i := 16) (v := ?_) rfl (by kernel_rfl) (by kernel_rfl) (by kernel_rfl) (fun _ _ _ h => h) (Or.inl ⟨by rfl, ?rt⟩) (by assumption) ?_; case rt => (intro w hSw; (try dsimp only at hSw); go_simp; (try with_reducible rfl))); (try simp only [Act.put, List.getElem_toArray, List.getElem_cons_succ, List.getElem_cons_zero, List.setIfInBounds_toArray, List.set_cons_zero, List.set_cons_succ])
        refine wpAnyH_done (by kernel_rfl) ?_ _
        obtain ⟨wc, hwc⟩ : ∃ wc, RowKit.Below w1.heap.size w1 wc ∧ wc = _ := ⟨_, hHeld.1, rfl⟩
        rw [← hwc.2]
        have BX := Lib.hid (Bt BB.out hwc.1)
        clear hwc
        clear hHeld zb zb1 z1 z2 z3 zf1 zf2 zf3 hlz BC
        go_wp2
        go_ret
        exact ⟨rfl, refS_new HR.out (Bt B0.out BX.out)⟩
    | true =>
      by_cases hc : chk (y1, y2, y3) = 0
      · have hmv : moveEN L (x1, x2) (putV l (y1, y2, y3)) = 0 := by
          unfold moveEN
          rw [nM_same HG.out.rise ((fndE_some HG.out.rise).1 hf) (mask_put (x := (y1, y2, y3)) hrt hc hh), if_pos HG.out.msk]
        have e1 : setEN L (x1, x2) (y1, y2, y3) = moveEN L (x1, x2) (putV l (y1, y2, y3)) := by rw [hmv]; unfold setEN; rw [hf, hrw]; simp [hh, hc]
        have e2 : setEL L (x1, x2) (y1, y2, y3) = moveEL L (x1, x2) (putV l (y1, y2, y3)) := by unfold setEL moveEL; rw [e1, hrw]
        rw [e1, e2]
        rw [hh] at CF1
        rw [hc] at CC
        clear hmv
        obtain ⟨PL, hPL⟩ : ∃ PL, PL = putV l (y1, y2, y3) := ⟨_, rfl⟩
        have HPL := Lib.hid hPL
        have HPR := Lib.hid (show RightV PL by rw [hPL]; exact putV_right hrt hc)
        rw [← hPL]
        clear hPL
        have HC := Lib.hid hc
        have HT := Lib.hid hrt
        clear hf hrw e1 e2 hh hc hrt
        go_enter Tryz.func52, Tryz.ntmps52
        go_wp2_with fail
        rw [← hW]
        clear hW
        refine CF.out.mono ?_
        rintro e w1 ⟨rfl, hb1⟩
        have B1 := Lib.hid hb1
        clear hb1 CF
        have BB := Lib.hid B1.out
        obtain ⟨⟨a0, a1, a2⟩, _, _, _⟩ := three_cells (blk_below v0.out B1.out)
        have hal := cell_lt a0
        obtain ⟨c0, f0⟩ := one_cell (blk_below HB.out B1.out)
        have hlp := cell_lt c0
        obtain ⟨d3, hgl⟩ := D3.out _ B1.out
        go_wp2_with fail
        refine wp_region_held_drew (S := (fun w' => Below (w1).heap.size (w1) w' ∧ ∀ b_1 o, b_1 < (w1).heap.size → w'.cell? ⟨b_1, o, none⟩ = (w1).cell? ⟨b_1, o, none⟩)) (by kernel_rfl) (keep0 _) (fun hHeld => ?_)
        (refine wpAnyH_take (i := 0) (v := ?_) rfl (by kernel_rfl) (by kernel_rfl) (by kernel_rfl) (fun _ _ _ h => h) (Or.inl ⟨by rfl, ?rt⟩) (by assumption) ?_; case rt => (intro w hSw; (try dsimp only at hSw); go_simp; (try with_reducible rfl))); (try simp only [Act.put, List.getElem_toArray, List.getElem_cons_succ, List.getElem_cons_zero, List.setIfInBounds_toArray, List.set_cons_zero, List.set_cons_succ])
        (refine wpAnyH_take (i := 1) (v := ?_) rfl (by kernel_rfl) (by kernel_rfl) (by kernel_rfl) (fun _ _ _ h => h) (Or.inl ⟨by rfl, ?rt⟩) (by assumption) ?_; case rt => (intro w hSw; (try dsimp only at hSw); go_simp; (try with_reducible rfl))); (try simp only [Act.put, List.getElem_toArray, List.getElem_cons_succ, List.getElem_cons_zero, List.setIfInBounds_toArray, List.set_cons_zero, List.set_cons_succ])
        (refine wpAnyH_take (i := 2) (v := ?_) rfl (by kernel_rfl) (by kernel_rfl) (by kernel_rfl) (fun _ _ _ h => h) (Or.inl ⟨by rfl, ?rt⟩) (by assumption) ?_; case rt => (intro w hSw; (try dsimp only at hSw); go_simp; (try with_reducible rfl))); (try simp only [Act.put, List.getElem_toArray, List.getElem_cons_succ, List.getElem_cons_zero, List.setIfInBounds_toArray, List.set_cons_zero, List.set_cons_succ])
        (refine wpAnyH_take (i := 3) (v := ?_) rfl (by kernel_rfl) (by kernel_rfl) (by kernel_rfl) (fun _ _ _ h => h) (Or.inl ⟨by rfl, ?rt⟩) (by assumption) ?_; case rt => (intro w hSw; (try dsimp only at hSw); go_simp; (try with_reducible rfl))); (try simp only [Act.put, List.getElem_toArray, List.getElem_cons_succ, List.getElem_cons_zero, List.setIfInBounds_toArray, List.set_cons_zero, List.set_cons_succ])
        (refine wpAnyH_take (i := 4) (v := ?_) rfl (by kernel_rfl) (by kernel_rfl) (by kernel_rfl) (fun _ _ _ h => h) (Or.inl ⟨by rfl, ?rt⟩) (by assumption) ?_; case rt => (intro w hSw; (try dsimp only at hSw); go_simp; (try with_reducible rfl))); (try simp only [Act.put, List.getElem_toArray, List.getElem_cons_succ, List.getElem_cons_zero, List.setIfInBounds_toArray, List.set_cons_zero, List.set_cons_succ])
        (refine wpAnyH_take (i := 5) (v := ?_) rfl (by kernel_rfl) (by kernel_rfl) (by kernel_rfl) (fun _ _ _ h => h) (Or.inl ⟨by rfl, ?rt⟩) (by assumption) ?_; case rt => (intro w hSw; (try dsimp only at hSw); go_simp; (try with_reducible rfl))); (try simp only [Act.put, List.getElem_toArray, List.getElem_cons_succ, List.getElem_cons_zero, List.setIfInBounds_toArray, List.set_cons_zero, List.set_cons_succ])
        (refine wpAnyH_take (i := 6) (v := ?_) rfl (by kernel_rfl) (by kernel_rfl) (by kernel_rfl) (fun _ _ _ h => h) (Or.inl ⟨by rfl, ?rt⟩) (by assumption) ?_; case rt => (intro w hSw; (try dsimp only at hSw); go_simp; (try with_reducible rfl))); (try simp only [Act.put, List.getElem_toArray, List.getElem_cons_succ, List.getElem_cons_zero, List.setIfInBounds_toArray, List.set_cons_zero, List.set_cons_succ])
        (refine wpAnyH_take (i := 7) (v := ?_) rfl (by kernel_rfl) (by kernel_rfl) (by kernel_rfl) (fun _ _ _ h => h) (Or.inl ⟨by rfl, ?rt⟩) (by assumption) ?_; case rt => (intro w hSw; (try dsimp only at hSw); go_simp; (try with_reducible rfl))); (try simp only [Act.put, List.getElem_toArray, List.getElem_cons_succ, List.getElem_cons_zero, List.setIfInBounds_toArray, List.set_cons_zero, List.set_cons_succ])
        (refine wpAnyH_take (i := 8) (v := ?_) rfl (by kernel_rfl) (by kernel_rfl) (by kernel_rfl) (fun _ _ _ h => h) (Or.inl ⟨by rfl, ?rt⟩) (by assumption) ?_; case rt => (intro w hSw; (try dsimp only at hSw); go_simp; (try with_reducible rfl))); (try simp only [Act.put, List.getElem_toArray, List.getElem_cons_succ, List.getElem_cons_zero, List.setIfInBounds_toArray, List.set_cons_zero, List.set_cons_succ])
        (refine wpAnyH_take (i := 9) (v := ?_) rfl (by kernel_rfl) (by kernel_rfl) (by kernel_rfl) (fun _ _ _ h => h) (Or.inl ⟨by rfl, ?rt⟩) (by assumption) ?_; case rt => (intro w hSw; (try dsimp only at hSw); go_simp; (try with_reducible rfl))); (try simp only [Act.put, List.getElem_toArray, List.getElem_cons_succ, List.getElem_cons_zero, List.setIfInBounds_toArray, List.set_cons_zero, List.set_cons_succ])
        refine wpAnyH_ready (rs := [10, 14]) (by kernel_rfl) (by simp) ?_; refine (AllReadyH.cons rfl (fun K hK => ?_) (AllReadyH.cons rfl (fun K hK => ?_) AllReadyH.nil))
        · go_simp; refine (CF1.out _ (Bt BB.out (And.left (by assumption)))).mono ?_; rintro e w5 ⟨rfl, hb5⟩; refine hK.out _ _ (keepB (by assumption) hb5) (fun hHeld => ?_); clear hK K; (try simp only [Act.put, List.getElem_toArray, List.getElem_cons_succ, List.getElem_cons_zero, List.setIfInBounds_toArray, List.set_cons_zero, List.set_cons_succ]); have BC := Lib.hid hb5; clear hb5
          have hC := hHeld
          (refine wpAnyH_take (i := 11) (v := ?_) rfl (by kernel_rfl) (by kernel_rfl) (by kernel_rfl) (fun _ _ _ h => h) (Or.inl ⟨by rfl, ?rt⟩) (by assumption) ?_; case rt => (intro w hSw; (try dsimp only at hSw); go_simp; (try with_reducible rfl))); (try simp only [Act.put, List.getElem_toArray, List.getElem_cons_succ, List.getElem_cons_zero, List.setIfInBounds_toArray, List.set_cons_zero, List.set_cons_succ])
          (refine wpAnyH_take (i := 12) (v := ?_) rfl (by kernel_rfl) (by kernel_rfl) (by kernel_rfl) (fun _ _ _ h => h) (Or.inl ⟨by rfl, ?rt⟩) (by assumption) ?_; case rt => (intro w hSw; (try dsimp only at hSw); go_simp; (try with_reducible rfl))); (try simp only [Act.put, List.getElem_toArray, List.getElem_cons_succ, List.getElem_cons_zero, List.setIfInBounds_toArray, List.set_cons_zero, List.set_cons_succ])
          (refine wpAnyH_take (i := 13) (v := ?_) rfl (by kernel_rfl) (by kernel_rfl) (by kernel_rfl) (fun _ _ _ h => h) (Or.inl ⟨by rfl, ?rt⟩) (by assumption) ?_; case rt => (intro w hSw; (try dsimp only at hSw); go_simp; (try with_reducible rfl))); (try simp only [Act.put, List.getElem_toArray, List.getElem_cons_succ, List.getElem_cons_zero, List.setIfInBounds_toArray, List.set_cons_zero, List.set_cons_succ])
          refine wpAnyH_ready (rs := [14]) (by kernel_rfl) (by simp) ?_; refine (AllReadyH.cons rfl (fun K hK => ?_) AllReadyH.nil)
          go_simp; refine hK.out _ _ (keepA (by assumption) _) (fun hHeld => ?_); clear hK K; (try simp only [Act.put, List.getElem_toArray, List.getElem_cons_succ, List.getElem_cons_zero, List.setIfInBounds_toArray, List.set_cons_zero, List.set_cons_succ])
          have hw1 : w1.heap.size ≤ w5.heap.size := BC.out.size
          refine wpAnyH_ready (rs := [15]) (by kernel_rfl) (by simp) ?_; refine (AllReadyH.cons rfl (fun K hK => ?_) AllReadyH.nil)
          go_simp; refine hK.out _ _ (keepA hC _) (fun hHeld => ?_); clear hK K; (try simp only [Act.put, List.getElem_toArray, List.getElem_cons_succ, List.getElem_cons_zero, List.setIfInBounds_toArray, List.set_cons_zero, List.set_cons_succ])
          (refine wpAnyH_take (i := 16) (v := ?_) rfl (by kernel_rfl) (by kernel_rfl) (by kernel_rfl) (fun _ _ _ h => h) (Or.inl ⟨by rfl, ?rt⟩) (by assumption) ?_; case rt => (intro w hSw; (try dsimp only at hSw); go_simp; (try with_reducible rfl))); (try simp only [Act.put, List.getElem_toArray, List.getElem_cons_succ, List.getElem_cons_zero, List.setIfInBounds_toArray, List.set_cons_zero, List.set_cons_succ])
          refine wpAnyH_done (by kernel_rfl) ?_ _
          obtain ⟨wc, hwc⟩ : ∃ wc, RowKit.Below w1.heap.size w1 wc ∧ wc = _ := ⟨_, hHeld.1, rfl⟩
          rw [← hwc.2]
          have BX := Lib.hid (Bt BB.out hwc.1)
          clear hwc
          clear hHeld hC hw1 BC
          clear a0 a1 a2 hal c0 f0 hlp d3 hgl
          obtain ⟨⟨a0, a1, a2⟩, _, _, _⟩ := three_cells (blk_below v0.out BX.out)
          have hal := cell_lt a0
          go_wp2_with fail
          refine (CC.out _).mono ?_
          rintro e w8 ⟨rfl, hg8⟩
          replace BX := Lib.hid (Bt BX.out hg8.below)
          clear hg8 a0 a1 a2 hal
          generalize w8 = wc at *
          obtain ⟨⟨a0, a1, a2⟩, _, _, _⟩ := three_cells (blk_below v0.out BX.out)
          have hal := cell_lt a0
          obtain ⟨c0, f0⟩ := one_cell (blk_below HB.out BX.out)
          have hlp := cell_lt c0
          obtain ⟨d3, hgl⟩ := D3.out _ BX.out
          have CP : Hid (∀ W1, RowKit.Below W.heap.size W W1 → Calls Tryz.prog 90 #[.slice sp l.length n0, .agg #[.int .i64 y1, .int .i64 y2, .int .i64 y3]] W1 fun e w' => (∃ v', e = .returned v' ∧ w'.ownsRow W1.heap.size 34 3 v' PL.length (flat encV PL)) ∧ RowKit.Below W1.heap.size W1 w') := fun W1 hb9 => by rw [HPL.out]; exact rput_own l _ y1 y2 y3 W1 (HSL.out.below hb9) HT.out HC.out (right_len8 HT.out)
          go_wp2_with fail
          go_region_law (first
            | (go_simp; go_at_call 90; refine (CP.out _ (Bt BX.out (Bd (Below.refl _ wc)))).mono ?_; rintro e w6 ⟨⟨vp, rfl, hop⟩, hb6⟩; have B6 := Lib.hid (Bt (Bd (Below.refl _ wc)) hb6); have OP := Lib.hid (show w6.ownsRow wc.heap.size 34 3 vp PL.length (flat encV PL) from hop); obtain ⟨pp, cp, rfl, _, _, _⟩ := row_val hop; clear hop hb6)
            | (go_simp; go_at_call 89; refine (rbecome2 HR.out HG.out hi2 HL3.out PL pp cp (Bt B0.out BX.out) B6.out OP.out HPR.out).mono ?_; rintro e w7 ⟨rfl, hR7, hT7⟩; have R7 := Lib.hid hR7; have T7 := Lib.hid hT7; clear hR7 hT7))
          all_goals
            go_wp2
            go_ret
            exact ⟨rfl, R7.out, T7.out⟩
        · go_simp; refine hK.out _ _ (keepA (by assumption) _) (fun hHeld => ?_); clear hK K; (try simp only [Act.put, List.getElem_toArray, List.getElem_cons_succ, List.getElem_cons_zero, List.setIfInBounds_toArray, List.set_cons_zero, List.set_cons_succ])
          have zb := heap_alloc_new w1.drew (.cells #[.int .i64 0, .int .i64 0, .int .i64 0] 34)
          refine wpAnyH_ready (rs := [10]) (by kernel_rfl) (by simp) ?_; refine (AllReadyH.cons rfl (fun K hK => ?_) AllReadyH.nil)
          go_simp; refine (CF1.out _ (Bt BB.out (And.left (by assumption)))).mono ?_; rintro e w5 ⟨rfl, hb5⟩; refine hK.out _ _ (keepB (by assumption) hb5) (fun hHeld => ?_); clear hK K; (try simp only [Act.put, List.getElem_toArray, List.getElem_cons_succ, List.getElem_cons_zero, List.setIfInBounds_toArray, List.set_cons_zero, List.set_cons_succ]); have BC := Lib.hid hb5; clear hb5
          have zb1 := blk_below zb BC.out
          obtain ⟨⟨z1, z2, z3⟩, zf1, zf2, zf3⟩ := three_cells (pa := w1.heap.size) zb1
          have hlz : w1.heap.size < w5.heap.size := cell_lt z1
          (refine wpAnyH_take (i := 11) (v := ?_) rfl (by kernel_rfl) (by kernel_rfl) (by kernel_rfl) (fun _ _ _ h => h) (Or.inl ⟨by rfl, ?rt⟩) (by assumption) ?_; case rt => (intro w hSw; (try dsimp only at hSw); go_simp; (try with_reducible rfl))); (try simp only [Act.put, List.getElem_toArray, List.getElem_cons_succ, List.getElem_cons_zero, List.setIfInBounds_toArray, List.set_cons_zero, List.set_cons_succ])
          (refine wpAnyH_take (i := 12) (v := ?_) rfl (by kernel_rfl) (by kernel_rfl) (by kernel_rfl) (fun _ _ _ h => h) (Or.inl ⟨by rfl, ?rt⟩) (by assumption) ?_; case rt => (intro w hSw; (try dsimp only at hSw); go_simp; (try with_reducible rfl))); (try simp only [Act.put, List.getElem_toArray, List.getElem_cons_succ, List.getElem_cons_zero, List.setIfInBounds_toArray, List.set_cons_zero, List.set_cons_succ])
          (refine wpAnyH_take (i := 13) (v := ?_) rfl (by kernel_rfl) (by kernel_rfl) (by kernel_rfl) (fun _ _ _ h => h) (Or.inl ⟨by rfl, ?rt⟩) (by assumption) ?_; case rt => (intro w hSw; (try dsimp only at hSw); go_simp; (try with_reducible rfl))); (try simp only [Act.put, List.getElem_toArray, List.getElem_cons_succ, List.getElem_cons_zero, List.setIfInBounds_toArray, List.set_cons_zero, List.set_cons_succ])
          refine wpAnyH_ready (rs := [15]) (by kernel_rfl) (by simp) ?_; refine (AllReadyH.cons rfl (fun K hK => ?_) AllReadyH.nil)
          go_simp; refine hK.out _ _ (keepS3 (by assumption) (Nat.le_refl _) _ _ _) (fun hHeld => ?_); clear hK K; (try simp only [Act.put, List.getElem_toArray, List.getElem_cons_succ, List.getElem_cons_zero, List.setIfInBounds_toArray, List.set_cons_zero, List.set_cons_succ])
          (refine wpAnyH_take (i := 16) (v := ?_) rfl (by kernel_rfl) (by kernel_rfl) (by kernel_rfl) (fun _ _ _ h => h) (Or.inl ⟨by rfl, ?rt⟩) (by assumption) ?_; case rt => (intro w hSw; (try dsimp only at hSw); go_simp; (try with_reducible rfl))); (try simp only [Act.put, List.getElem_toArray, List.getElem_cons_succ, List.getElem_cons_zero, List.setIfInBounds_toArray, List.set_cons_zero, List.set_cons_succ])
          refine wpAnyH_done (by kernel_rfl) ?_ _
          obtain ⟨wc, hwc⟩ : ∃ wc, RowKit.Below w1.heap.size w1 wc ∧ wc = _ := ⟨_, hHeld.1, rfl⟩
          rw [← hwc.2]
          have BX := Lib.hid (Bt BB.out hwc.1)
          clear hwc
          clear hHeld zb zb1 z1 z2 z3 zf1 zf2 zf3 hlz BC
          clear a0 a1 a2 hal c0 f0 hlp d3 hgl
          obtain ⟨⟨a0, a1, a2⟩, _, _, _⟩ := three_cells (blk_below v0.out BX.out)
          have hal := cell_lt a0
          go_wp2_with fail
          refine (CC.out _).mono ?_
          rintro e w8 ⟨rfl, hg8⟩
          replace BX := Lib.hid (Bt BX.out hg8.below)
          clear hg8 a0 a1 a2 hal
          generalize w8 = wc at *
          obtain ⟨⟨a0, a1, a2⟩, _, _, _⟩ := three_cells (blk_below v0.out BX.out)
          have hal := cell_lt a0
          obtain ⟨c0, f0⟩ := one_cell (blk_below HB.out BX.out)
          have hlp := cell_lt c0
          obtain ⟨d3, hgl⟩ := D3.out _ BX.out
          have CP : Hid (∀ W1, RowKit.Below W.heap.size W W1 → Calls Tryz.prog 90 #[.slice sp l.length n0, .agg #[.int .i64 y1, .int .i64 y2, .int .i64 y3]] W1 fun e w' => (∃ v', e = .returned v' ∧ w'.ownsRow W1.heap.size 34 3 v' PL.length (flat encV PL)) ∧ RowKit.Below W1.heap.size W1 w') := fun W1 hb9 => by rw [HPL.out]; exact rput_own l _ y1 y2 y3 W1 (HSL.out.below hb9) HT.out HC.out (right_len8 HT.out)
          go_wp2_with fail
          go_region_law (first
            | (go_simp; go_at_call 90; refine (CP.out _ (Bt BX.out (Bd (Below.refl _ wc)))).mono ?_; rintro e w6 ⟨⟨vp, rfl, hop⟩, hb6⟩; have B6 := Lib.hid (Bt (Bd (Below.refl _ wc)) hb6); have OP := Lib.hid (show w6.ownsRow wc.heap.size 34 3 vp PL.length (flat encV PL) from hop); obtain ⟨pp, cp, rfl, _, _, _⟩ := row_val hop; clear hop hb6)
            | (go_simp; go_at_call 89; refine (rbecome2 HR.out HG.out hi2 HL3.out PL pp cp (Bt B0.out BX.out) B6.out OP.out HPR.out).mono ?_; rintro e w7 ⟨rfl, hR7, hT7⟩; have R7 := Lib.hid hR7; have T7 := Lib.hid hT7; clear hR7 hT7))
          all_goals
            go_wp2
            go_ret
            exact ⟨rfl, R7.out, T7.out⟩
      · have hz : ¬ ((chk (y1, y2, y3) : Nat) : Int) = 0 := by omega
        have e1 : setEN L (x1, x2) (y1, y2, y3) = chk (y1, y2, y3) := by unfold setEN; rw [hf, hrw]; simp [hh]
        have e2 : setEL L (x1, x2) (y1, y2, y3) = L := by unfold setEL; rw [e1, if_neg hc]
        rw [e1, e2]
        rw [hh] at CF1
        generalize chk (y1, y2, y3) = cc at *
        have hcb : ((cc : Int) != 0) = true := bne_iff_ne.2 hz
        clear hf hrw e1 e2 hh hc hrt
        go_enter Tryz.func52, Tryz.ntmps52
        go_wp2_with fail
        rw [← hW]
        clear hW
        refine CF.out.mono ?_
        rintro e w1 ⟨rfl, hb1⟩
        have B1 := Lib.hid hb1
        clear hb1 CF
        have BB := Lib.hid B1.out
        obtain ⟨⟨a0, a1, a2⟩, _, _, _⟩ := three_cells (blk_below v0.out B1.out)
        have hal := cell_lt a0
        obtain ⟨c0, f0⟩ := one_cell (blk_below HB.out B1.out)
        have hlp := cell_lt c0
        obtain ⟨d3, hgl⟩ := D3.out _ B1.out
        go_wp2_with fail
        refine wp_region_held_drew (S := (fun w' => Below (w1).heap.size (w1) w' ∧ ∀ b_1 o, b_1 < (w1).heap.size → w'.cell? ⟨b_1, o, none⟩ = (w1).cell? ⟨b_1, o, none⟩)) (by kernel_rfl) (keep0 _) (fun hHeld => ?_)
        (refine wpAnyH_take (i := 0) (v := ?_) rfl (by kernel_rfl) (by kernel_rfl) (by kernel_rfl) (fun _ _ _ h => h) (Or.inl ⟨by rfl, ?rt⟩) (by assumption) ?_; case rt => (intro w hSw; (try dsimp only at hSw); go_simp; (try with_reducible rfl))); (try simp only [Act.put, List.getElem_toArray, List.getElem_cons_succ, List.getElem_cons_zero, List.setIfInBounds_toArray, List.set_cons_zero, List.set_cons_succ])
        (refine wpAnyH_take (i := 1) (v := ?_) rfl (by kernel_rfl) (by kernel_rfl) (by kernel_rfl) (fun _ _ _ h => h) (Or.inl ⟨by rfl, ?rt⟩) (by assumption) ?_; case rt => (intro w hSw; (try dsimp only at hSw); go_simp; (try with_reducible rfl))); (try simp only [Act.put, List.getElem_toArray, List.getElem_cons_succ, List.getElem_cons_zero, List.setIfInBounds_toArray, List.set_cons_zero, List.set_cons_succ])
        (refine wpAnyH_take (i := 2) (v := ?_) rfl (by kernel_rfl) (by kernel_rfl) (by kernel_rfl) (fun _ _ _ h => h) (Or.inl ⟨by rfl, ?rt⟩) (by assumption) ?_; case rt => (intro w hSw; (try dsimp only at hSw); go_simp; (try with_reducible rfl))); (try simp only [Act.put, List.getElem_toArray, List.getElem_cons_succ, List.getElem_cons_zero, List.setIfInBounds_toArray, List.set_cons_zero, List.set_cons_succ])
        (refine wpAnyH_take (i := 3) (v := ?_) rfl (by kernel_rfl) (by kernel_rfl) (by kernel_rfl) (fun _ _ _ h => h) (Or.inl ⟨by rfl, ?rt⟩) (by assumption) ?_; case rt => (intro w hSw; (try dsimp only at hSw); go_simp; (try with_reducible rfl))); (try simp only [Act.put, List.getElem_toArray, List.getElem_cons_succ, List.getElem_cons_zero, List.setIfInBounds_toArray, List.set_cons_zero, List.set_cons_succ])
        (refine wpAnyH_take (i := 4) (v := ?_) rfl (by kernel_rfl) (by kernel_rfl) (by kernel_rfl) (fun _ _ _ h => h) (Or.inl ⟨by rfl, ?rt⟩) (by assumption) ?_; case rt => (intro w hSw; (try dsimp only at hSw); go_simp; (try with_reducible rfl))); (try simp only [Act.put, List.getElem_toArray, List.getElem_cons_succ, List.getElem_cons_zero, List.setIfInBounds_toArray, List.set_cons_zero, List.set_cons_succ])
        (refine wpAnyH_take (i := 5) (v := ?_) rfl (by kernel_rfl) (by kernel_rfl) (by kernel_rfl) (fun _ _ _ h => h) (Or.inl ⟨by rfl, ?rt⟩) (by assumption) ?_; case rt => (intro w hSw; (try dsimp only at hSw); go_simp; (try with_reducible rfl))); (try simp only [Act.put, List.getElem_toArray, List.getElem_cons_succ, List.getElem_cons_zero, List.setIfInBounds_toArray, List.set_cons_zero, List.set_cons_succ])
        (refine wpAnyH_take (i := 6) (v := ?_) rfl (by kernel_rfl) (by kernel_rfl) (by kernel_rfl) (fun _ _ _ h => h) (Or.inl ⟨by rfl, ?rt⟩) (by assumption) ?_; case rt => (intro w hSw; (try dsimp only at hSw); go_simp; (try with_reducible rfl))); (try simp only [Act.put, List.getElem_toArray, List.getElem_cons_succ, List.getElem_cons_zero, List.setIfInBounds_toArray, List.set_cons_zero, List.set_cons_succ])
        (refine wpAnyH_take (i := 7) (v := ?_) rfl (by kernel_rfl) (by kernel_rfl) (by kernel_rfl) (fun _ _ _ h => h) (Or.inl ⟨by rfl, ?rt⟩) (by assumption) ?_; case rt => (intro w hSw; (try dsimp only at hSw); go_simp; (try with_reducible rfl))); (try simp only [Act.put, List.getElem_toArray, List.getElem_cons_succ, List.getElem_cons_zero, List.setIfInBounds_toArray, List.set_cons_zero, List.set_cons_succ])
        (refine wpAnyH_take (i := 8) (v := ?_) rfl (by kernel_rfl) (by kernel_rfl) (by kernel_rfl) (fun _ _ _ h => h) (Or.inl ⟨by rfl, ?rt⟩) (by assumption) ?_; case rt => (intro w hSw; (try dsimp only at hSw); go_simp; (try with_reducible rfl))); (try simp only [Act.put, List.getElem_toArray, List.getElem_cons_succ, List.getElem_cons_zero, List.setIfInBounds_toArray, List.set_cons_zero, List.set_cons_succ])
        (refine wpAnyH_take (i := 9) (v := ?_) rfl (by kernel_rfl) (by kernel_rfl) (by kernel_rfl) (fun _ _ _ h => h) (Or.inl ⟨by rfl, ?rt⟩) (by assumption) ?_; case rt => (intro w hSw; (try dsimp only at hSw); go_simp; (try with_reducible rfl))); (try simp only [Act.put, List.getElem_toArray, List.getElem_cons_succ, List.getElem_cons_zero, List.setIfInBounds_toArray, List.set_cons_zero, List.set_cons_succ])
        refine wpAnyH_ready (rs := [10, 14]) (by kernel_rfl) (by simp) ?_; refine (AllReadyH.cons rfl (fun K hK => ?_) (AllReadyH.cons rfl (fun K hK => ?_) AllReadyH.nil))
        · go_simp; refine (CF1.out _ (Bt BB.out (And.left (by assumption)))).mono ?_; rintro e w5 ⟨rfl, hb5⟩; refine hK.out _ _ (keepB (by assumption) hb5) (fun hHeld => ?_); clear hK K; (try simp only [Act.put, List.getElem_toArray, List.getElem_cons_succ, List.getElem_cons_zero, List.setIfInBounds_toArray, List.set_cons_zero, List.set_cons_succ]); have BC := Lib.hid hb5; clear hb5
          have hC := hHeld
          (refine wpAnyH_take (i := 11) (v := ?_) rfl (by kernel_rfl) (by kernel_rfl) (by kernel_rfl) (fun _ _ _ h => h) (Or.inl ⟨by rfl, ?rt⟩) (by assumption) ?_; case rt => (intro w hSw; (try dsimp only at hSw); go_simp; (try with_reducible rfl))); (try simp only [Act.put, List.getElem_toArray, List.getElem_cons_succ, List.getElem_cons_zero, List.setIfInBounds_toArray, List.set_cons_zero, List.set_cons_succ])
          (refine wpAnyH_take (i := 12) (v := ?_) rfl (by kernel_rfl) (by kernel_rfl) (by kernel_rfl) (fun _ _ _ h => h) (Or.inl ⟨by rfl, ?rt⟩) (by assumption) ?_; case rt => (intro w hSw; (try dsimp only at hSw); go_simp; (try with_reducible rfl))); (try simp only [Act.put, List.getElem_toArray, List.getElem_cons_succ, List.getElem_cons_zero, List.setIfInBounds_toArray, List.set_cons_zero, List.set_cons_succ])
          (refine wpAnyH_take (i := 13) (v := ?_) rfl (by kernel_rfl) (by kernel_rfl) (by kernel_rfl) (fun _ _ _ h => h) (Or.inl ⟨by rfl, ?rt⟩) (by assumption) ?_; case rt => (intro w hSw; (try dsimp only at hSw); go_simp; (try with_reducible rfl))); (try simp only [Act.put, List.getElem_toArray, List.getElem_cons_succ, List.getElem_cons_zero, List.setIfInBounds_toArray, List.set_cons_zero, List.set_cons_succ])
          refine wpAnyH_ready (rs := [14]) (by kernel_rfl) (by simp) ?_; refine (AllReadyH.cons rfl (fun K hK => ?_) AllReadyH.nil)
          go_simp; refine hK.out _ _ (keepA (by assumption) _) (fun hHeld => ?_); clear hK K; (try simp only [Act.put, List.getElem_toArray, List.getElem_cons_succ, List.getElem_cons_zero, List.setIfInBounds_toArray, List.set_cons_zero, List.set_cons_succ])
          have hw1 : w1.heap.size ≤ w5.heap.size := BC.out.size
          refine wpAnyH_ready (rs := [15]) (by kernel_rfl) (by simp) ?_; refine (AllReadyH.cons rfl (fun K hK => ?_) AllReadyH.nil)
          go_simp; refine hK.out _ _ (keepA hC _) (fun hHeld => ?_); clear hK K; (try simp only [Act.put, List.getElem_toArray, List.getElem_cons_succ, List.getElem_cons_zero, List.setIfInBounds_toArray, List.set_cons_zero, List.set_cons_succ])
          (refine wpAnyH_take (i := 16) (v := ?_) rfl (by kernel_rfl) (by kernel_rfl) (by kernel_rfl) (fun _ _ _ h => h) (Or.inl ⟨by rfl, ?rt⟩) (by assumption) ?_; case rt => (intro w hSw; (try dsimp only at hSw); go_simp; (try with_reducible rfl))); (try simp only [Act.put, List.getElem_toArray, List.getElem_cons_succ, List.getElem_cons_zero, List.setIfInBounds_toArray, List.set_cons_zero, List.set_cons_succ])
          refine wpAnyH_done (by kernel_rfl) ?_ _
          obtain ⟨wc, hwc⟩ : ∃ wc, RowKit.Below w1.heap.size w1 wc ∧ wc = _ := ⟨_, hHeld.1, rfl⟩
          rw [← hwc.2]
          have BX := Lib.hid (Bt BB.out hwc.1)
          clear hwc
          clear hHeld hC hw1 BC
          clear a0 a1 a2 hal c0 f0 hlp d3 hgl
          obtain ⟨⟨a0, a1, a2⟩, _, _, _⟩ := three_cells (blk_below v0.out BX.out)
          have hal := cell_lt a0
          go_wp2_with fail
          refine (CC.out _).mono ?_
          rintro e w8 ⟨rfl, hg8⟩
          replace BX := Lib.hid (Bt BX.out hg8.below)
          clear hg8
          go_wp2
          go_ret
          exact ⟨rfl, refS_new HR.out (Bt B0.out BX.out)⟩
        · go_simp; refine hK.out _ _ (keepA (by assumption) _) (fun hHeld => ?_); clear hK K; (try simp only [Act.put, List.getElem_toArray, List.getElem_cons_succ, List.getElem_cons_zero, List.setIfInBounds_toArray, List.set_cons_zero, List.set_cons_succ])
          have zb := heap_alloc_new w1.drew (.cells #[.int .i64 0, .int .i64 0, .int .i64 0] 34)
          refine wpAnyH_ready (rs := [10]) (by kernel_rfl) (by simp) ?_; refine (AllReadyH.cons rfl (fun K hK => ?_) AllReadyH.nil)
          go_simp; refine (CF1.out _ (Bt BB.out (And.left (by assumption)))).mono ?_; rintro e w5 ⟨rfl, hb5⟩; refine hK.out _ _ (keepB (by assumption) hb5) (fun hHeld => ?_); clear hK K; (try simp only [Act.put, List.getElem_toArray, List.getElem_cons_succ, List.getElem_cons_zero, List.setIfInBounds_toArray, List.set_cons_zero, List.set_cons_succ]); have BC := Lib.hid hb5; clear hb5
          have zb1 := blk_below zb BC.out
          obtain ⟨⟨z1, z2, z3⟩, zf1, zf2, zf3⟩ := three_cells (pa := w1.heap.size) zb1
          have hlz : w1.heap.size < w5.heap.size := cell_lt z1
          (refine wpAnyH_take (i := 11) (v := ?_) rfl (by kernel_rfl) (by kernel_rfl) (by kernel_rfl) (fun _ _ _ h => h) (Or.inl ⟨by rfl, ?rt⟩) (by assumption) ?_; case rt => (intro w hSw; (try dsimp only at hSw); go_simp; (try with_reducible rfl))); (try simp only [Act.put, List.getElem_toArray, List.getElem_cons_succ, List.getElem_cons_zero, List.setIfInBounds_toArray, List.set_cons_zero, List.set_cons_succ])
          (refine wpAnyH_take (i := 12) (v := ?_) rfl (by kernel_rfl) (by kernel_rfl) (by kernel_rfl) (fun _ _ _ h => h) (Or.inl ⟨by rfl, ?rt⟩) (by assumption) ?_; case rt => (intro w hSw; (try dsimp only at hSw); go_simp; (try with_reducible rfl))); (try simp only [Act.put, List.getElem_toArray, List.getElem_cons_succ, List.getElem_cons_zero, List.setIfInBounds_toArray, List.set_cons_zero, List.set_cons_succ])
          (refine wpAnyH_take (i := 13) (v := ?_) rfl (by kernel_rfl) (by kernel_rfl) (by kernel_rfl) (fun _ _ _ h => h) (Or.inl ⟨by rfl, ?rt⟩) (by assumption) ?_; case rt => (intro w hSw; (try dsimp only at hSw); go_simp; (try with_reducible rfl))); (try simp only [Act.put, List.getElem_toArray, List.getElem_cons_succ, List.getElem_cons_zero, List.setIfInBounds_toArray, List.set_cons_zero, List.set_cons_succ])
          refine wpAnyH_ready (rs := [15]) (by kernel_rfl) (by simp) ?_; refine (AllReadyH.cons rfl (fun K hK => ?_) AllReadyH.nil)
          go_simp; refine hK.out _ _ (keepS3 (by assumption) (Nat.le_refl _) _ _ _) (fun hHeld => ?_); clear hK K; (try simp only [Act.put, List.getElem_toArray, List.getElem_cons_succ, List.getElem_cons_zero, List.setIfInBounds_toArray, List.set_cons_zero, List.set_cons_succ])
          (refine wpAnyH_take (i := 16) (v := ?_) rfl (by kernel_rfl) (by kernel_rfl) (by kernel_rfl) (fun _ _ _ h => h) (Or.inl ⟨by rfl, ?rt⟩) (by assumption) ?_; case rt => (intro w hSw; (try dsimp only at hSw); go_simp; (try with_reducible rfl))); (try simp only [Act.put, List.getElem_toArray, List.getElem_cons_succ, List.getElem_cons_zero, List.setIfInBounds_toArray, List.set_cons_zero, List.set_cons_succ])
          refine wpAnyH_done (by kernel_rfl) ?_ _
          obtain ⟨wc, hwc⟩ : ∃ wc, RowKit.Below w1.heap.size w1 wc ∧ wc = _ := ⟨_, hHeld.1, rfl⟩
          rw [← hwc.2]
          have BX := Lib.hid (Bt BB.out hwc.1)
          clear hwc
          clear hHeld zb zb1 z1 z2 z3 zf1 zf2 zf3 hlz BC
          clear a0 a1 a2 hal c0 f0 hlp d3 hgl
          obtain ⟨⟨a0, a1, a2⟩, _, _, _⟩ := three_cells (blk_below v0.out BX.out)
          have hal := cell_lt a0
          go_wp2_with fail
          refine (CC.out _).mono ?_
          rintro e w8 ⟨rfl, hg8⟩
          replace BX := Lib.hid (Bt BX.out hg8.below)
          clear hg8
          go_wp2
          go_ret
          exact ⟨rfl, refS_new HR.out (Bt B0.out BX.out)⟩
end
end Go.Proofs.YtaehendpdfpibaaGreatDoor
