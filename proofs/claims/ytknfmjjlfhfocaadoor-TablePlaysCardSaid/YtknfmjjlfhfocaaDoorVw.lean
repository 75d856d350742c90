/-
  The reference's Row and Put: what they answer lies in a row of the call's own (written by mkvw.py).
-/
import Derived.Test.YtknfmjjlfhfocaaDoorVv
namespace Go.Proofs.YtknfmjjlfhfocaaDoor
set_option linter.unusedSimpArgs false
set_option linter.unusedVariables false
open Go.RowKit Go.Sort Go.Lib Go.Shelf

set_option maxHeartbeats 4000000 in
set_option maxRecDepth 100000 in
theorem rrow_own (l : List Vl) (v : Value) (w : World) (hl : Sl encV w v l) (hlen : l.length ≤ 100000) :
    Calls Tryd.prog 53 #[v] w fun e w' => (∃ v', e = .returned (.tuple #[v', .int .i64 (rowN l : Nat)]) ∧ w'.ownsRow w.heap.size 41 3 v' (rowL l).length (flat encV (rowL l))) ∧ RowKit.Below w.heap.size w w' := by
  obtain ⟨p, cap, rfl, hl1, hl2, hl3⟩ := hl
  have HL := Lib.hid hl3
  have hbig : l.length ≤ 9223372036854775807 := by omega
  clear hl3 hl2
  go_enter Tryd.func53, Tryd.ntmps53
  go_wp2
  go_loopg [14] l.length (fun gk s14 wr => ∃ i : Nat, s14 = .int .i64 i ∧ i ≤ l.length ∧ l.length - i ≤ gk ∧ Gr w wr ∧ Hid (∀ j, j < i → chk l[j]! = 0))
  case atStart => exact ⟨0, rfl, Nat.zero_le _, by omega, Gr.refl _, fun j hj => absurd hj (Nat.not_lt_zero _)⟩
  case round =>
    obtain ⟨i, rfl, hi, hgk, hg, I⟩ := hrel
    have HG := Lib.hid hg
    by_cases hin : i < l.length
    · obtain ⟨g, o, rfl, hg1, hg2⟩ := HL.out (by omega)
      obtain ⟨c1, c2, c3⟩ := atV hg2 hin
      have d1 : wr.cell? ⟨g, o + i * 3, none⟩ = some (.int .i64 l[i]!.1) := Bc HG.out.below hg1 c1
      have d2 : wr.cell? ⟨g, o + i * 3 + 1, none⟩ = some (.int .i64 l[i]!.2.1) := Bc HG.out.below hg1 c2
      have d3 : wr.cell? ⟨g, o + i * 3 + 2, none⟩ = some (.int .i64 l[i]!.2.2) := Bc HG.out.below hg1 c3
      have hgw : g < wr.heap.size := Bl HG.out.below hg1
      have HF := Lib.hid (fun (h : chk l[i]! ≠ 0) => show firstE l = chk l[i]! from firstE_at (i := i) (by rw [getElem!_pos l i hin, List.getElem?_eq_getElem hin]) h (fun y hy => by
        obtain ⟨j, hj, rfl⟩ := List.getElem_of_mem hy
        have hj' : j < i := by rw [List.length_take] at hj; omega
        have := I.out j hj'
        rw [getElem!_pos l j (by omega)] at this
        rwa [List.getElem_take]))
      generalize hx : l[i]! = x at *
      have X := Lib.hid hx
      obtain ⟨x1, x2, x3⟩ := x
      dsimp only at d1 d2 d3
      have FC : Hid (∀ W, Calls Tryd.prog 28 #[.agg #[.int .i64 x1, .int .i64 x2, .int .i64 x3]] W fun e w' => e = .returned (.int .i64 (chk (x1, x2, x3) : Nat)) ∧ Gr W w') := fun W => rcheck_any (x1, x2, x3) W
      clear hg2 c1 c2 c3 hx hg
      by_cases hk : chk (x1, x2, x3) = 0
      · rw [hk] at FC
        have HK := Lib.hid hk
        clear hk HF
        go_wp2_with (go_at_call 28; refine (FC.out _).mono ?_; rintro e w1 ⟨rfl, hg1⟩)
        go_roundg (l.length - (i + 1))
        case measure => omega
        case rel =>
          refine ⟨i + 1, by go_num, by omega, Nat.le_refl _, HG.out.trans ((Gr.alloc (Gr.refl wr) _).trans hg1), (show Hid _ from fun j hj => ?_)⟩
          by_cases e : j = i
          · subst e; rw [X.out]; exact HK.out
          · exact I.out j (by omega)
      · have hf := HF.out hk
        have hrn : rowN l = chk (x1, x2, x3) := by unfold rowN; rw [hf, if_pos hk]
        have E := Lib.hid (show rowN l = chk (x1, x2, x3) ∧ rowL l = [] from ⟨hrn, by unfold rowL; rw [hrn, if_neg hk]⟩)
        generalize chk (x1, x2, x3) = cn at *
        have hcn : ((cn : Int) != 0) = true := by simp; omega
        have hcn2 : ((cn : Int) == 0) = false := beq_eq_false_iff_ne.2 (by omega)
        clear hf hrn hk HF
        go_wp2_with (go_at_call 28; refine (FC.out _).mono ?_; rintro e w1 ⟨rfl, hg1⟩)
        go_ret2
        refine ⟨⟨.slice none 0 0, by rw [E.out.1]; rfl, by rw [E.out.2]; exact World.ownsRow_nil _ _ _ _⟩, ?_⟩
        exact (HG.out.trans ((Gr.alloc (Gr.refl wr) _).trans hg1)).below
    · have hf : firstE l = 0 := (firstE_zero l).2 fun x hx => by
        obtain ⟨j, hj, rfl⟩ := List.getElem_of_mem hx
        have := I.out j (by omega)
        rwa [getElem!_pos l j hj] at this
      have HF := Lib.hid hf
      have B0 := Lib.hid (Ba HG.out.below (.cells #[] 41))
      have O0 := Lib.hid (show (wr.alloc (.cells #[] 41)).ownsRow w.heap.size 41 3 (.slice (some ⟨wr.heap.size, 0, none⟩) 0 0) ([] : List Vl).length (flat encV []) from World.ownsRow_made _ #[] 0 HG.out.below.size (Nat.zero_le _) (by simp))
      clear hf hg I
      obtain ⟨M0, hM0⟩ : ∃ M0, M0 = wr := ⟨_, rfl⟩
      subst hM0
      go_wp2
      go_loopg [7, 8] 10 (fun gk s7 s8 wo => ∃ (k : Nat) (L : List Vl), s8 = .int .i64 k ∧ k ≤ 10 ∧ 10 - k ≤ gk ∧ RowKit.Below w.heap.size w wo ∧ wo.ownsRow w.heap.size 41 3 s7 L.length (flat encV L) ∧ L.length ≤ k ∧ Hid (L = rowTo k l) ∧ Hid (∀ j, j < k → (ofKind j l).length ≤ 1))
      case atStart => exact ⟨0, [], rfl, by omega, by omega, B0.out, O0.out, Nat.le_refl _, rfl, fun j hj => absurd hj (Nat.not_lt_zero _)⟩
      case round =>
        obtain ⟨k, L, rfl, hk, hgk2, hb, hown, hLl, I1, I2⟩ := hrel
        have HB := Lib.hid hb
        have HO := Lib.hid hown
        obtain ⟨pr, cr, rfl, _, _, _⟩ := row_val hown
        clear hb hown
        obtain ⟨M1, hM1⟩ : ∃ M1, M1 = wr := ⟨_, rfl⟩
        subst hM1
        by_cases hk10 : k < 10
        · have hme := Nat.lt_of_lt_of_le (show 10 - (k + 1) < 10 - k by omega) hgk2
          have hkw : ((k : Int) < 10) := by omega
          have B1 := Lib.hid HB.out
          go_wp2
          go_loopg [7, 9, 31] l.length (fun gk s7 s9 s31 wi => ∃ (i : Nat) (M N : List Vl), s31 = .int .i64 i ∧ s9 = .int .i64 M.length ∧ i ≤ l.length ∧ l.length - i ≤ gk ∧ RowKit.Below w.heap.size w wi ∧ wi.ownsRow w.heap.size 41 3 s7 N.length (flat encV N) ∧ M.length ≤ i ∧ Hid (N = L ++ M) ∧ Hid (M = ofKind k (l.take i)))
          case atStart => exact ⟨0, [], L, rfl, rfl, Nat.zero_le _, by omega, HB.out, HO.out, Nat.le_refl _, (show Hid _ from by show _ = _; rw [List.append_nil]), (show Hid _ from by show _ = _; simp [ofKind])⟩
          case round =>
            obtain ⟨i, M, N, rfl, rfl, hi, hgk3, hb, hown, hMl, NE, I3⟩ := hrel
            have HBi := Lib.hid hb
            have HOi := Lib.hid hown
            obtain ⟨pi, ci, ev, _, _, _⟩ := row_val hown
            subst ev
            obtain ⟨m, hm⟩ : ∃ m, m = M.length := ⟨_, rfl⟩
            rw [← hm] at hMl ⊢
            have HM := Lib.hid hm
            clear hm
            by_cases hin : i < l.length
            · obtain ⟨g, o, rfl, hg1, hg2⟩ := HL.out (by omega)
              obtain ⟨c1, c2, c3⟩ := atV hg2 hin
              have d1 : wr.cell? ⟨g, o + i * 3, none⟩ = _ := Bc HBi.out hg1 c1
              have d2 : wr.cell? ⟨g, o + i * 3 + 1, none⟩ = _ := Bc HBi.out hg1 c2
              have d3 : wr.cell? ⟨g, o + i * 3 + 2, none⟩ = _ := Bc HBi.out hg1 c3
              have hgw : g < wr.heap.size := Bl HBi.out hg1
              have ST := Lib.hid (ofKind_step hin k)
              generalize hx : l[i]! = x at *
              obtain ⟨x1, x2, x3⟩ := x
              dsimp only at d1 d2 d3
              clear hg2 c1 c2 c3 hx hb hown
              have BA := Lib.hid (Ba (Ba (Below.refl _ wr) (.cells #[.int .i64 x1, .int .i64 x2, .int .i64 x3] 41)) (.cells #[.int .i64 x1, .int .i64 x2, .int .i64 x3] 41))
              by_cases hk : x1 = (k : Int)
              · have hne : (x1 == (k : Int)) = true := beq_iff_eq.2 hk
                have HK := Lib.hid hk
                have O2 := Lib.hid (row_keep HOi.out (fun g hg => BA.out.block g (row_lt HOi.out hg)))
                have S2 := Lib.hid (sl_lit (enc := encV) (w := wr.alloc (.cells #[.int .i64 x1, .int .i64 x2, .int .i64 x3] 41)) (cs := #[.int .i64 x1, .int .i64 x2, .int .i64 x3]) (t := 41) (b := wr.heap.size + 1) [(x1, x2, x3)] (by simp) rfl (by unfold maxLen; simp))
                have LE := Lib.hid (show w.heap.size ≤ ((wr.alloc (.cells #[.int .i64 x1, .int .i64 x2, .int .i64 x3] 41)).alloc (.cells #[.int .i64 x1, .int .i64 x2, .int .i64 x3] 41)).heap.size from by have := HBi.out.size; simp; omega)
                have LN := Lib.hid (show N.length + [((x1, x2, x3) : Vl)].length ≤ 1000000 from by have := HM.out; have h := congrArg List.length NE.out; rw [List.length_append] at h; simp; omega)
                clear hk
                go_wp2_with (at_builtin; refine wpl_app apV rfl _ _ rfl w.heap.size (by rfl) (by rfl) O2.out (by first | rfl | simp) S2.out LN.out LE.out ?_; intro v1 w1 hown1 hgrow1 hnil1)
                have hb1 := grownB (Bt HBi.out BA.out) O2.out hgrow1
                have eL : N.length + [((x1, x2, x3) : Vl)].length = (N ++ [(x1, x2, x3)]).length := by simp
                rw [eL] at hown1
                clear hgrow1 hnil1 eL
                go_roundg (l.length - (i + 1))
                case measure => omega
                case rel => exact ⟨i + 1, M ++ [(x1, x2, x3)], N ++ [(x1, x2, x3)], by go_num, by have := HM.out; rw [List.length_append]; subst this; go_num, by omega, Nat.le_refl _, hb1, hown1, by have := HM.out; simp; omega, (show Hid _ from by show _ = _; rw [NE.out, List.append_assoc]), (show Hid _ from by show _ = _; rw [ST.out, if_pos HK.out, ← I3.out])⟩
              · have hne : (x1 == (k : Int)) = false := beq_eq_false_iff_ne.2 hk
                have HK := Lib.hid hk
                clear hk
                go_wp2
                go_roundg (l.length - (i + 1))
                case measure => omega
                case rel => exact ⟨i + 1, M, N, by go_num, by rw [HM.out], by omega, Nat.le_refl _, Ba HBi.out _, row_keep HOi.out (fun g hg => (Ba (Below.refl _ wr) (.cells #[.int .i64 x1, .int .i64 x2, .int .i64 x3] 41)).block g (row_lt HOi.out hg)), by have := HM.out; omega, NE, (show Hid _ from by show _ = _; rw [ST.out, if_neg HK.out]; exact I3.out)⟩
            · have hii : i = l.length := by omega
              have hM : M = ofKind k l := by have := I3.out; rwa [hii, List.take_length] at this
              have HMK := Lib.hid hM
              clear hM hb hown I3
              by_cases hm1 : 1 < m
              · have hm1i : (1 : Int) < (m : Int) := by omega
                have hdup : dupB l = true := by
                  unfold dupB
                  rw [List.any_eq_true]
                  exact ⟨k, List.mem_range.2 hk10, decide_eq_true (by rw [← HMK.out, ← HM.out]; exact hm1)⟩
                have hn : rowN l = 4 := by unfold rowN; rw [HF.out, hdup]; rfl
                have E := Lib.hid (show rowN l = 4 ∧ rowL l = [] from ⟨hn, by unfold rowL; rw [hn]; rfl⟩)
                clear hdup hn
                go_wp2
                go_ret2
                exact ⟨⟨.slice none 0 0, by rw [E.out.1]; rfl, by rw [E.out.2]; exact World.ownsRow_nil _ _ _ _⟩, HBi.out⟩
              · have hm1i : ¬ (1 : Int) < (m : Int) := by omega
                go_wp2
                go_roundg (10 - (k + 1))
                case measure => exact hme
                case rel => exact ⟨k + 1, N, by go_num, by omega, Nat.le_refl _, HBi.out, HOi.out, by have := HM.out; have h := congrArg List.length NE.out; rw [List.length_append] at h; omega, (show Hid _ from by show _ = _; rw [rowTo_succ, ← I1.out, ← HMK.out]; exact NE.out), (show Hid _ from fun j hj => by
                  by_cases e : j = k
                  · subst e; rw [← HMK.out, ← HM.out]; omega
                  · exact I2.out j (by omega))⟩
        · have hk10' : k = 10 := by omega
          have hdup : dupB l = false := (dup_no l).2 fun j hj => I2.out j (by omega)
          have hn : rowN l = 0 := by unfold rowN; rw [HF.out, hdup]; rfl
          have E := Lib.hid (show rowN l = 0 ∧ rowL l = L from ⟨hn, by unfold rowL; rw [if_pos hn, I1.out, hk10']⟩)
          have hkw : ¬ ((k : Int) < 10) := by omega
          clear hdup hn
          go_wp2
          go_ret2
          exact ⟨⟨_, by rw [E.out.1]; rfl, by rw [E.out.2]; exact HO.out⟩, HB.out⟩

set_option maxHeartbeats 4000000 in
set_option maxRecDepth 100000 in
theorem rput_own (l : List Vl) (v : Value) (x1 x2 x3 : Int) (w : World) (hl : Sl encV w v l) (hr : RightV l) (hx : chk (x1, x2, x3) = 0) (hlen : l.length ≤ 1000) :
    Calls Tryd.prog 31 #[v, .agg #[.int .i64 x1, .int .i64 x2, .int .i64 x3]] w fun e w' => (∃ v', e = .returned v' ∧ w'.ownsRow w.heap.size 41 3 v' (putV l (x1, x2, x3)).length (flat encV (putV l (x1, x2, x3)))) ∧ RowKit.Below w.heap.size w w' := by
  have hsz : (w.alloc (.cells #[.int .i64 x1, .int .i64 x2, .int .i64 x3] 41)).heap.size = w.heap.size + 1 := by simp
  have HS := Lib.hid (hl.below (Ba (Below.refl _ w) (.cells #[.int .i64 x1, .int .i64 x2, .int .i64 x3] 41)))
  obtain ⟨D, hD⟩ : ∃ D, D = dropV l x1 := ⟨_, rfl⟩
  have hDl : D.length ≤ l.length := by rw [hD]; exact List.length_filter_le _ _
  obtain ⟨PL, hPL⟩ : ∃ PL, PL = putV l (x1, x2, x3) := ⟨_, rfl⟩
  have hrow : rowL (D ++ [(x1, x2, x3)]) = PL := by rw [hD, hPL]; exact putV_ref hr hx
  obtain ⟨n, hn⟩ : ∃ n, n = rowN (D ++ [(x1, x2, x3)]) := ⟨_, rfl⟩
  have CD : Hid (∀ W, RowKit.Below (w.alloc (.cells #[.int .i64 x1, .int .i64 x2, .int .i64 x3] 41)).heap.size (w.alloc (.cells #[.int .i64 x1, .int .i64 x2, .int .i64 x3] 41)) W → Calls Tryd.prog 55 #[v, .int .i64 x1] W fun e w' => (∃ v', e = .returned v' ∧ w'.ownsRow (w.alloc (.cells #[.int .i64 x1, .int .i64 x2, .int .i64 x3] 41)).heap.size 41 3 v' D.length (flat encV D)) ∧ RowKit.Below W.heap.size W w') := fun W h => (rdrop_call l v x1 W (HS.out.below h) (by omega)).mono fun e w' ⟨v', h1, h2, h3⟩ => ⟨⟨v', h1, by rw [hD]; exact own_mono h2 h.size⟩, h3⟩
  have CR : Hid (∀ W va, Sl encV W va (D ++ [(x1, x2, x3)]) → Calls Tryd.prog 53 #[va] W fun e w' => (∃ v', e = .returned (.tuple #[v', .int .i64 n]) ∧ w'.ownsRow W.heap.size 41 3 v' PL.length (flat encV PL)) ∧ RowKit.Below W.heap.size W w') := fun W va h => by
    have := rrow_own (D ++ [(x1, x2, x3)]) va W h (by simp; omega)
    rwa [hrow, ← hn] at this
  rw [← hPL]
  have HDL := Lib.hid hDl
  clear hl hr hx hD hPL hrow hn hDl
  go_enter Tryd.func31, Tryd.ntmps31
  go_wp2_with fail
  refine wp_region_held_drew (S := (fun w' => Below (w.alloc (.cells #[.int .i64 x1, .int .i64 x2, .int .i64 x3] 41)).heap.size (w.alloc (.cells #[.int .i64 x1, .int .i64 x2, .int .i64 x3] 41)) w' ∧ ∀ b_1 o, b_1 < (w.alloc (.cells #[.int .i64 x1, .int .i64 x2, .int .i64 x3] 41)).heap.size → w'.cell? ⟨b_1, o, none⟩ = (w.alloc (.cells #[.int .i64 x1, .int .i64 x2, .int .i64 x3] 41)).cell? ⟨b_1, o, none⟩)) (by kernel_rfl) (keep0 _) (fun hHeld => ?_)
  (refine wpAnyH_take (i := 0) (v := ?_) rfl (by kernel_rfl) (by kernel_rfl) (by kernel_rfl) (fun _ _ _ h => h) (Or.inl ⟨by rfl, ?rt⟩) (by assumption) ?_; case rt => (intro w hSw; (try dsimp only at hSw); go_simp; (try with_reducible rfl))); (try simp only [Act.put, List.getElem_toArray, List.getElem_cons_succ, List.getElem_cons_zero, List.setIfInBounds_toArray, List.set_cons_zero, List.set_cons_succ])
  (refine wpAnyH_take (i := 1) (v := ?_) rfl (by kernel_rfl) (by kernel_rfl) (by kernel_rfl) (fun _ _ _ h => h) (Or.inl ⟨by rfl, ?rt⟩) (by assumption) ?_; case rt => (intro w hSw; (try dsimp only at hSw); go_simp; (try with_reducible rfl))); (try simp only [Act.put, List.getElem_toArray, List.getElem_cons_succ, List.getElem_cons_zero, List.setIfInBounds_toArray, List.set_cons_zero, List.set_cons_succ])
  (refine wpAnyH_take (i := 2) (v := ?_) rfl (by kernel_rfl) (by kernel_rfl) (by kernel_rfl) (fun _ _ _ h => h) (Or.inl ⟨by rfl, ?rt⟩) (by assumption) ?_; case rt => (intro w hSw; (try dsimp only at hSw); go_simp; (try with_reducible rfl))); (try simp only [Act.put, List.getElem_toArray, List.getElem_cons_succ, List.getElem_cons_zero, List.setIfInBounds_toArray, List.set_cons_zero, List.set_cons_succ])
  (refine wpAnyH_take (i := 4) (v := ?_) rfl (by kernel_rfl) (by kernel_rfl) (by kernel_rfl) (fun _ _ _ h => h) (Or.inl ⟨by rfl, ?rt⟩) (by assumption) ?_; case rt => (intro w hSw; (try dsimp only at hSw); go_simp; (try with_reducible rfl))); (try simp only [Act.put, List.getElem_toArray, List.getElem_cons_succ, List.getElem_cons_zero, List.setIfInBounds_toArray, List.set_cons_zero, List.set_cons_succ])
  refine wpAnyH_ready (rs := [3, 5]) (by kernel_rfl) (by simp) ?_; refine (AllReadyH.cons rfl (fun K hK => ?_) (AllReadyH.cons rfl (fun K hK => ?_) AllReadyH.nil))
  · go_simp; refine (CD.out _ (And.left (by assumption))).mono ?_; rintro e w1 ⟨⟨v1, rfl, ho1⟩, hb1⟩; refine hK.out _ _ (keepB (by assumption) hb1) (fun hHeld => ?_); clear hK K; (try simp only [Act.put, List.getElem_toArray, List.getElem_cons_succ, List.getElem_cons_zero, List.setIfInBounds_toArray, List.set_cons_zero, List.set_cons_succ]); have O1 := Lib.hid ho1; have BC := Lib.hid hb1; clear ho1 hb1
    refine wpAnyH_ready (rs := [5]) (by kernel_rfl) (by simp) ?_; refine (AllReadyH.cons rfl (fun K hK => ?_) AllReadyH.nil)
    go_simp; refine hK.out _ _ (keepA (by assumption) _) (fun hHeld => ?_); clear hK K; (try simp only [Act.put, List.getElem_toArray, List.getElem_cons_succ, List.getElem_cons_zero, List.setIfInBounds_toArray, List.set_cons_zero, List.set_cons_succ])
    refine wpAnyH_ready (rs := [6]) (by kernel_rfl) (by simp) ?_; refine (AllReadyH.cons rfl (fun K hK => ?_) AllReadyH.nil)
    refine wp_app2 apV (.tmp 11) (.tmp 13) rfl (w.alloc (.cells #[.int .i64 x1, .int .i64 x2, .int .i64 x3] 41)).heap.size (by rfl) (by rfl) (own_below O1.out (Ba (Below.refl _ _) _)) rfl (sl_lit (enc := encV) (cs := #[.int .i64 x1, .int .i64 x2, .int .i64 x3]) (t := 41) [(x1, x2, x3)] (by simp) rfl (by unfold maxLen; simp)) (by have := HDL.out; simp; omega) ((And.left (by assumption) : RowKit.Below (w.alloc (.cells #[.int .i64 x1, .int .i64 x2, .int .i64 x3] 41)).heap.size (w.alloc (.cells #[.int .i64 x1, .int .i64 x2, .int .i64 x3] 41)) _).size) ?_; intro va wa hown hgrow hat hnil; have hba := grownB (And.left (by assumption)) (own_below O1.out (Ba (Below.refl _ _) _)) hgrow; refine hK.out _ _ (keepOfB hba) (fun hHeld => ?_); clear hK K; (try simp only [Act.put, List.getElem_toArray, List.getElem_cons_succ, List.getElem_cons_zero, List.setIfInBounds_toArray, List.set_cons_zero, List.set_cons_succ])
    refine wpAnyH_ready (rs := [7]) (by kernel_rfl) (by simp) ?_; refine (AllReadyH.cons rfl (fun K hK => ?_) AllReadyH.nil)
    go_simp; refine (CR.out _ _ (row_sl lenV hown rfl)).mono ?_; rintro e w1 ⟨⟨v2, rfl, hs2⟩, hb1⟩; refine hK.out _ _ (keepB (by assumption) hb1) (fun hHeld => ?_); clear hK K; (try simp only [Act.put, List.getElem_toArray, List.getElem_cons_succ, List.getElem_cons_zero, List.setIfInBounds_toArray, List.set_cons_zero, List.set_cons_succ]); have S2 := Lib.hid hs2; clear hs2
    (refine wpAnyH_take (i := 8) (v := ?_) rfl (by kernel_rfl) (by kernel_rfl) (by kernel_rfl) (fun _ _ _ h => h) (Or.inl ⟨by rfl, ?rt⟩) (by assumption) ?_; case rt => (intro w hSw; (try dsimp only at hSw); go_simp; (try with_reducible rfl))); (try simp only [Act.put, List.getElem_toArray, List.getElem_cons_succ, List.getElem_cons_zero, List.setIfInBounds_toArray, List.set_cons_zero, List.set_cons_succ])
    (refine wpAnyH_take (i := 9) (v := ?_) rfl (by kernel_rfl) (by kernel_rfl) (by kernel_rfl) (fun _ _ _ h => h) (Or.inl ⟨by rfl, ?rt⟩) (by assumption) ?_; case rt => (intro w hSw; (try dsimp only at hSw); go_simp; (try with_reducible rfl))); (try simp only [Act.put, List.getElem_toArray, List.getElem_cons_succ, List.getElem_cons_zero, List.setIfInBounds_toArray, List.set_cons_zero, List.set_cons_succ])
    (refine wpAnyH_take (i := 10) (v := ?_) rfl (by kernel_rfl) (by kernel_rfl) (by kernel_rfl) (fun _ _ _ h => h) (Or.inl ⟨by rfl, ?rt⟩) (by assumption) ?_; case rt => (intro w hSw; (try dsimp only at hSw); go_simp; (try with_reducible rfl))); (try simp only [Act.put, List.getElem_toArray, List.getElem_cons_succ, List.getElem_cons_zero, List.setIfInBounds_toArray, List.set_cons_zero, List.set_cons_succ])
    (refine wpAnyH_take (i := 11) (v := ?_) rfl (by kernel_rfl) (by kernel_rfl) (by kernel_rfl) (fun _ _ _ h => h) (Or.inl ⟨by rfl, ?rt⟩) (by assumption) ?_; case rt => (intro w hSw; (try dsimp only at hSw); go_simp; (try with_reducible rfl))); (try simp only [Act.put, List.getElem_toArray, List.getElem_cons_succ, List.getElem_cons_zero, List.setIfInBounds_toArray, List.set_cons_zero, List.set_cons_succ])
    (refine wpAnyH_take (i := 12) (v := ?_) rfl (by kernel_rfl) (by kernel_rfl) (by kernel_rfl) (fun _ _ _ h => h) (Or.inl ⟨by rfl, ?rt⟩) (by assumption) ?_; case rt => (intro w hSw; (try dsimp only at hSw); go_simp; (try with_reducible rfl))); (try simp only [Act.put, List.getElem_toArray, List.getElem_cons_succ, List.getElem_cons_zero, List.setIfInBounds_toArray, List.set_cons_zero, List.set_cons_succ])
    refine wpAnyH_done (by kernel_rfl) ?_ _
    go_wp2
    go_ret
    exact ⟨⟨v2, rfl, row_mono S2.out (by have := hba.size; simp at this; omega)⟩, Bt (Ba (Below.refl _ w) _) (And.left (by assumption))⟩
  · go_simp; refine hK.out _ _ (keepA (by assumption) _) (fun hHeld => ?_); clear hK K; (try simp only [Act.put, List.getElem_toArray, List.getElem_cons_succ, List.getElem_cons_zero, List.setIfInBounds_toArray, List.set_cons_zero, List.set_cons_succ])
    refine wpAnyH_ready (rs := [3]) (by kernel_rfl) (by simp) ?_; refine (AllReadyH.cons rfl (fun K hK => ?_) AllReadyH.nil)
    go_simp; refine (CD.out _ (And.left (by assumption))).mono ?_; rintro e w1 ⟨⟨v1, rfl, ho1⟩, hb1⟩; refine hK.out _ _ (keepB (by assumption) hb1) (fun hHeld => ?_); clear hK K; (try simp only [Act.put, List.getElem_toArray, List.getElem_cons_succ, List.getElem_cons_zero, List.setIfInBounds_toArray, List.set_cons_zero, List.set_cons_succ]); have O1 := Lib.hid ho1; have BC := Lib.hid hb1; clear ho1 hb1
    refine wpAnyH_ready (rs := [6]) (by kernel_rfl) (by simp) ?_; refine (AllReadyH.cons rfl (fun K hK => ?_) AllReadyH.nil)
    refine wp_app2 apV (.tmp 11) (.tmp 13) rfl (w.alloc (.cells #[.int .i64 x1, .int .i64 x2, .int .i64 x3] 41)).heap.size (by rfl) (by rfl) (O1.out) rfl (Sl.below (Sl.below (sl_lit (enc := encV) (w := w.alloc (.cells #[.int .i64 x1, .int .i64 x2, .int .i64 x3] 41)) (cs := #[.int .i64 x1, .int .i64 x2, .int .i64 x3]) (t := 41) (b := w.heap.size + 1) [(x1, x2, x3)] (by simp) rfl (by unfold maxLen; simp)) (Bd (Below.refl _ _))) BC.out) (by have := HDL.out; simp; omega) ((And.left (by assumption) : RowKit.Below (w.alloc (.cells #[.int .i64 x1, .int .i64 x2, .int .i64 x3] 41)).heap.size (w.alloc (.cells #[.int .i64 x1, .int .i64 x2, .int .i64 x3] 41)) _).size) ?_; intro va wa hown hgrow hat hnil; have hba := grownB (And.left (by assumption)) (O1.out) hgrow; refine hK.out _ _ (keepOfB hba) (fun hHeld => ?_); clear hK K; (try simp only [Act.put, List.getElem_toArray, List.getElem_cons_succ, List.getElem_cons_zero, List.setIfInBounds_toArray, List.set_cons_zero, List.set_cons_succ])
    refine wpAnyH_ready (rs := [7]) (by kernel_rfl) (by simp) ?_; refine (AllReadyH.cons rfl (fun K hK => ?_) AllReadyH.nil)
    go_simp; refine (CR.out _ _ (row_sl lenV hown rfl)).mono ?_; rintro e w1 ⟨⟨v2, rfl, hs2⟩, hb1⟩; refine hK.out _ _ (keepB (by assumption) hb1) (fun hHeld => ?_); clear hK K; (try simp only [Act.put, List.getElem_toArray, List.getElem_cons_succ, List.getElem_cons_zero, List.setIfInBounds_toArray, List.set_cons_zero, List.set_cons_succ]); have S2 := Lib.hid hs2; clear hs2
    (refine wpAnyH_take (i := 8) (v := ?_) rfl (by kernel_rfl) (by kernel_rfl) (by kernel_rfl) (fun _ _ _ h => h) (Or.inl ⟨by rfl, ?rt⟩) (by assumption) ?_; case rt => (intro w hSw; (try dsimp only at hSw); go_simp; (try with_reducible rfl))); (try simp only [Act.put, List.getElem_toArray, List.getElem_cons_succ, List.getElem_cons_zero, List.setIfInBounds_toArray, List.set_cons_zero, List.set_cons_succ])
    (refine wpAnyH_take (i := 9) (v := ?_) rfl (by kernel_rfl) (by kernel_rfl) (by kernel_rfl) (fun _ _ _ h => h) (Or.inl ⟨by rfl, ?rt⟩) (by assumption) ?_; case rt => (intro w hSw; (try dsimp only at hSw); go_simp; (try with_reducible rfl))); (try simp only [Act.put, List.getElem_toArray, List.getElem_cons_succ, List.getElem_cons_zero, List.setIfInBounds_toArray, List.set_cons_zero, List.set_cons_succ])
    (refine wpAnyH_take (i := 10) (v := ?_) rfl (by kernel_rfl) (by kernel_rfl) (by kernel_rfl) (fun _ _ _ h => h) (Or.inl ⟨by rfl, ?rt⟩) (by assumption) ?_; case rt => (intro w hSw; (try dsimp only at hSw); go_simp; (try with_reducible rfl))); (try simp only [Act.put, List.getElem_toArray, List.getElem_cons_succ, List.getElem_cons_zero, List.setIfInBounds_toArray, List.set_cons_zero, List.set_cons_succ])
    (refine wpAnyH_take (i := 11) (v := ?_) rfl (by kernel_rfl) (by kernel_rfl) (by kernel_rfl) (fun _ _ _ h => h) (Or.inl ⟨by rfl, ?rt⟩) (by assumption) ?_; case rt => (intro w hSw; (try dsimp only at hSw); go_simp; (try with_reducible rfl))); (try simp only [Act.put, List.getElem_toArray, List.getElem_cons_succ, List.getElem_cons_zero, List.setIfInBounds_toArray, List.set_cons_zero, List.set_cons_succ])
    (refine wpAnyH_take (i := 12) (v := ?_) rfl (by kernel_rfl) (by kernel_rfl) (by kernel_rfl) (fun _ _ _ h => h) (Or.inl ⟨by rfl, ?rt⟩) (by assumption) ?_; case rt => (intro w hSw; (try dsimp only at hSw); go_simp; (try with_reducible rfl))); (try simp only [Act.put, List.getElem_toArray, List.getElem_cons_succ, List.getElem_cons_zero, List.setIfInBounds_toArray, List.set_cons_zero, List.set_cons_succ])
    refine wpAnyH_done (by kernel_rfl) ?_ _
    go_wp2
    go_ret
    exact ⟨⟨v2, rfl, row_mono S2.out (by have := hba.size; simp at this; omega)⟩, Bt (Ba (Below.refl _ w) _) (And.left (by assumption))⟩
end Go.Proofs.YtknfmjjlfhfocaaDoor
