/-
  The walk of HeapMixed.
-/
import Derived.Test.YtaceahjomhgccaaDoorLk10
namespace Go.Proofs.YtaceahjomhgccaaDoor
set_option linter.unusedSimpArgs false
set_option linter.unusedVariables false
open Go.RowKit Go.Sort Go.Lib Go.Shelf

theorem row_off {Z : Nat → Prop} {base b0 et k n : Nat} {w w' : World} {v : Value} {xs : List Value} (h : w.ownsRow b0 et k v n xs) (t : Tch (OffZ Z base) w w') (hz : ∀ g, v.ownBlock = some g → Z g) : w'.ownsRow b0 et k v n xs :=
  row_keep h (fun g hg => t.block g (row_lt h hg) (fun e => e.2 (hz g hg)))
/-- Where x stands among the first j. -/
def Seen (m : List Hd) (x : Hd) (j : Nat) (z : Int) : Prop := (z = -1 ∧ ∀ q, q < j → m[q]! ≠ x) ∨ (∃ q : Nat, z = q ∧ q < j ∧ m[q]! = x)
theorem Seen.zero (m : List Hd) (x : Hd) : Seen m x 0 (-1) := .inl ⟨rfl, fun q hq => absurd hq (Nat.not_lt_zero _)⟩
theorem Seen.hit {m : List Hd} {x : Hd} {j : Nat} (h : m[j]! = x) : Seen m x (j + 1) j := .inr ⟨j, rfl, Nat.lt_succ_self _, h⟩
theorem Seen.miss {m : List Hd} {x : Hd} {j : Nat} {z : Int} (h : Seen m x j z) (hn : m[j]! ≠ x) : Seen m x (j + 1) z := by
  rcases h with ⟨rfl, h⟩ | ⟨q, rfl, h1, h2⟩
  · refine .inl ⟨rfl, fun q hq => ?_⟩
    by_cases e : q = j
    · rw [e]; exact hn
    · exact h q (by omega)
  · exact .inr ⟨q, rfl, by omega, h2⟩
theorem Seen.found {m : List Hd} {x : Hd} {z : Int} (h : Seen m x m.length z) (hx : x ∈ m) : ∃ q : Nat, z = q ∧ q < m.length ∧ m[q]! = x := by
  rcases h with ⟨rfl, h⟩ | h
  · obtain ⟨q, hq, e⟩ := List.getElem_of_mem hx
    exact absurd (by rw [getElem!_pos m q hq]; exact e) (h q hq)
  · exact h

set_option maxHeartbeats 4000000 in
set_option maxRecDepth 100000 in
theorem heapMixed_walk (l : List Hd) (ps : List Bool) (v vp : Value) (W : World) (hv : Sl encH W v l) (hvp : Sl encB W vp ps) (t : TypeId) (u : Value) (hE : W.cell? ⟨2, 0, none⟩ = some (.iface t u)) :
    Calls Tryd.prog 6 #[v, vp] W fun e w' => e = .returned (.bool true) ∧ RowKit.Below W.heap.size W w' := by
  obtain ⟨p0, c0, rfl, v1, v2, v3⟩ := hv
  obtain ⟨p1, c1, rfl, q1, q2, q3⟩ := hvp
  unfold maxLen at v2 q2
  have HV := Lib.hid v3
  have HQ := Lib.hid q3
  have HE := Lib.hid hE
  have hel := cell_lt hE
  have AL := Lib.hid (alive_any W)
  clear v3 q3 hE
  by_cases h1 : l.length ≤ 100
  case neg =>
    have hz : (l.length : Int) > 100 := by omega
    go_enter Tryd.func6, Tryd.ntmps6
    go_wp2_with fail
    refine AL.out.mono ?_
    rintro e w1 ⟨rfl, hb1⟩
    go_wp2
    go_ret
    exact ⟨rfl, hb1⟩
  by_cases h2 : ps.length ≤ 200
  case neg =>
    have hz : ¬ (l.length : Int) > 100 := by omega
    have hz2 : (ps.length : Int) > 200 := by omega
    go_enter Tryd.func6, Tryd.ntmps6
    go_wp2_with fail
    refine AL.out.mono ?_
    rintro e w1 ⟨rfl, hb1⟩
    go_wp2
    go_ret
    exact ⟨rfl, hb1⟩
  have hz : ¬ (l.length : Int) > 100 := by omega
  have hz2 : ¬ (ps.length : Int) > 200 := by omega
  go_enter Tryd.func6, Tryd.ntmps6
  go_wp2_with fail
  refine AL.out.mono ?_
  rintro e w1 ⟨rfl, hb1⟩
  have C0 := Lib.hid (newO (Z := NoZ) (base := W.heap.size) (w := w1) hb1.size (fun b e => e.elim))
  have B1 := Lib.hid hb1
  clear hb1 AL
  go_wp2_with fail
  refine C0.out.mono ?_
  rintro e w2 ⟨pa, rfl, hp2, hb2⟩
  have B3 := Lib.hid (Bt (Bt B1.out hb2) (Ba (Below.refl _ w2) (.cells #[] 35)))
  have P3 := Lib.hid (hp2.turn (w' := w2.alloc (.cells #[] 35)) (Z' := fun b => (Value.slice (some ⟨w2.heap.size, 0, none⟩) 0 0).ownBlock = some b) (Tch.of (Ba (Below.refl _ w2) _)) (fun b hb => by
    simp only [Value.ownBlock, Option.some.injEq] at hb
    exact ⟨.inr (.inr (by omega)), by simp; omega⟩))
  have O3 := Lib.hid (show (w2.alloc (.cells #[] 35)).ownsRow W.heap.size 35 2 (.slice (some ⟨w2.heap.size, 0, none⟩) 0 0) 0 (flat encH ([] : List Hd)) from World.ownsRow_made _ #[] 0 (Bt B1.out hb2).size (Nat.zero_le _) (by simp))
  unfold psP
  clear hp2 hb2 C0 B1
  go_wp2
  go_loopw [29, 7, 6] (fun i nx vs wr => ∃ (k n : Nat) (L m : List Hd), i = .int .i64 k ∧ nx = .int .i64 n ∧ k ≤ ps.length ∧ n ≤ l.length ∧ m.length ≤ n ∧ HpO (fun b => vs.ownBlock = some b) W.heap.size wr pa L ∧ wr.ownsRow W.heap.size 35 2 vs m.length (flat encH m) ∧ Hid (HeapL ltH L ∧ L.Perm m) ∧ Hid (RowKit.Below W.heap.size W wr)) (fun i _ _ _ => ps.length - (intOf i).toNat)
  case atStart => exact ⟨0, 0, [], [], rfl, rfl, Nat.zero_le _, Nat.zero_le _, Nat.zero_le _, P3.out, O3.out, Lib.hid ⟨fun j _ jn => absurd jn (by simp), List.Perm.refl _⟩, B3⟩
  case round =>
    clear P3 O3 B3 hz hz2
    obtain ⟨k, n, L, m, rfl, rfl, hk, hn, hmn, hp, ho, hI, HB⟩ := hrel
    generalize wr = wo at *
    have HP := Lib.hid hp
    have HO := Lib.hid ho
    have hLm := hI.out.2.length_eq
    obtain ⟨pv, cv, rfl, m1, m2, m3⟩ := row_val ho
    have HM3 := Lib.hid m3
    unfold maxLen at m2
    clear hp ho m3
    by_cases hkp : k < ps.length
    · have hkz : (k : Int) < ps.length := by omega
      obtain ⟨g1, o1, rfl, hg1, hc1⟩ := HQ.out (by omega)
      have cb := Bc HB.out hg1 (atB hc1 hkp)
      have hg1w := Bl HB.out hg1
      clear hc1
      cases hbk : ps[k]! with
      | false =>
        rw [hbk] at cb
        clear hbk
        by_cases hnl : n < l.length
        · have hnz : (n : Int) < l.length := by omega
          obtain ⟨g0, o0, rfl, hg0, hc0⟩ := HV.out (by omega)
          obtain ⟨d1, d2⟩ := atH (fun j u hu => Bc HB.out hg0 (hc0 j u hu)) hnl
          have HC0 := Lib.hid hc0
          have hg0w := Bl HB.out hg0
          obtain ⟨x, hx⟩ : ∃ x, l[n]! = x := ⟨_, rfl⟩
          rw [hx] at d1 d2
          have HX := Lib.hid hx
          clear hx hc0
          obtain ⟨x1, x2⟩ := x
          dsimp only at d1 d2
          have BX := Lib.hid (Ba (Below.refl _ wo) (.cells #[.int .i64 x1, .int .i64 x2] 35))
          obtain ⟨hp2, hs2⟩ := HP.out.beside BX.out (slN_lit (w := wo) (cs := #[.int .i64 x1, .int .i64 x2]) (t := 35) (b := wo.heap.size) [((x1, x2) : Hd)] rfl rfl (by unfold maxLen; simp))
          have C2 := Lib.hid (pushO hp2 _ _ hs2 (fun b e => .inl (.inr e)) (by omega) (by simp; omega))
          have O2 := Lib.hid (row_below HO.out BX.out)
          have B2 := Lib.hid (Bt HB.out BX.out)
          unfold psP at C2
          clear hp2 hs2
          go_wp2_with fail
          refine C2.out.mono ?_
          rintro e w3 ⟨rfl, hp3, ht3⟩
          have B3 := Lib.hid (B2.out.trans (OffZ.below ht3 B2.out.size))
          have O3 := Lib.hid (row_off O2.out ht3 (fun g hg => .inl hg))
          have P3 := Lib.hid (hp3.forget (N' := fun b => (Value.slice pv m.length cv).ownBlock = some b) (fun b hb => .inl hb))
          obtain ⟨f1, f2⟩ := atH (fun j u hu => Bc B3.out hg0 (HC0.out j u hu)) hnl
          rw [HX.out] at f1 f2
          dsimp only at f1 f2
          have hg3 := Bl B3.out hg0
          have HI2 := Lib.hid (show HeapL ltH (pushesL ltH L [(x1, x2)]) ∧ (pushesL ltH L [(x1, x2)]).Perm (m ++ [(x1, x2)]) from ⟨pushesL_heap sto_hd L _ hI.out.1, (pushesL_perm L _).trans (hI.out.2.append_right _)⟩)
          clear hp3 ht3 C2 O2 B2 BX d1 d2
          have A4 := Lib.hid (Ba (Below.refl _ w3) (.cells #[.int .i64 x1, .int .i64 x2] 35))
          have O4 := Lib.hid (row_below O3.out A4.out)
          have P4 := Lib.hid (P3.out.below A4.out)
          have S4 := Lib.hid (sl_lit (enc := encH) (w := w3) (cs := #[.int .i64 x1, .int .i64 x2]) (t := 35) (b := w3.heap.size) [((x1, x2) : Hd)] rfl rfl (by unfold maxLen; simp))
          have B4 := Lib.hid (Bt B3.out A4.out)
          go_wp2_with (at_builtin; refine wpl_app2 apH rfl _ _ rfl W.heap.size (by rfl) (by rfl) O4.out rfl S4.out (by simp; omega) B4.out.size ?_; intro v5 w5 hown5 hgrow5 hat5 _)
          have P5 := Lib.hid (P4.out.grown hown5 hgrow5 hat5)
          have B5 := Lib.hid (grownB B4.out O4.out hgrow5)
          have O5 := Lib.hid hown5
          clear hown5 hgrow5 hat5
          go_roundw
          case rel => exact ⟨k + 1, n + 1, _, m ++ [(x1, x2)], by go_num, by go_num, by omega, by omega, by simp; omega, P5.out, O5.out, HI2, B5⟩
          case measure => simp [intOf]; omega
        · have hnz : ¬ (n : Int) < l.length := by omega
          go_wp2
          go_roundw
          case rel => exact ⟨k + 1, n, L, m, by go_num, rfl, by omega, hn, hmn, HP.out, HO.out, hI, HB⟩
          case measure => simp [intOf]; omega
      | true =>
        rw [hbk] at cb
        clear hbk
        have eq1 := eqH_run
        have gd1 := gdH_run
        rcases Nat.eq_zero_or_pos m.length with hm0 | hm0
        · obtain rfl : m = [] := List.length_eq_zero_iff.1 hm0
          obtain rfl : L = [] := List.length_eq_zero_iff.1 (by rw [hLm]; rfl)
          have C2 := Lib.hid (popO_none HP.out t u (Bc HB.out hel HE.out))
          unfold psP at C2
          simp only [List.length_nil] at *
          go_wp2_with fail
          refine C2.out.mono ?_
          rintro e w3 ⟨rfl, hb3⟩
          have B3 := Lib.hid hb3
          clear hb3 C2
          have LN := Lib.hid (lenO (HP.out.below (Bt B3.out (Ba (Below.refl _ w3) (.cells #[.int .i64 0, .int .i64 0] 35)))))
          rw [List.length_nil] at LN
          unfold psP at LN
          go_wp2
          refine wp_loop_rounds 1 ?_
          rw [rounds_succ]
          go_wp2_with fail
          refine LN.out.mono ?_
          rintro e w4 ⟨rfl, rfl⟩
          go_wp2
          go_roundw
          case rel => exact ⟨k + 1, n, [], [], by go_num, rfl, by omega, hn, hmn, HP.out.below (Bt B3.out (Ba (Below.refl _ w3) _)), row_below HO.out (Bt B3.out (Ba (Below.refl _ w3) _)), hI, Lib.hid (Bt HB.out (Bt B3.out (Ba (Below.refl _ w3) _)))⟩
          case measure => simp [intOf]; omega
        · have hL0 : 0 < L.length := by omega
          have C2 := Lib.hid (popO HP.out hL0 (by omega))
          obtain ⟨x, hx⟩ : ∃ x, L[0]! = x := ⟨_, rfl⟩
          have hxL : x ∈ L := by rw [← hx, getElem!_pos L 0 hL0]; exact List.getElem_mem _
          have HXM := Lib.hid (hI.out.2.mem_iff.1 hxL)
          have HLS := Lib.hid (fun y (hy : y ∈ m) => (by rw [← hx]; exact heap_least_mem sto_hd hI.out.1 (hI.out.2.mem_iff.2 hy) : ltH y x = false))
          have HPM := Lib.hid (popL_perm sto_hd L hL0)
          have HPH := Lib.hid (popL_heap sto_hd hI.out.1)
          have HPN := Lib.hid (popL_len sto_hd L)
          rw [hx] at C2 HPM
          clear hx hxL
          obtain ⟨x1, x2⟩ := x
          unfold psP aggH at C2
          dsimp only at C2
          go_wp2_with fail
          refine C2.out.mono ?_
          rintro e w3 ⟨rfl, hp3, ht3⟩
          have B3 := Lib.hid (HB.out.trans (OffZ.below ht3 HB.out.size))
          have A4 := Lib.hid (Ba (Below.refl _ w3) (.cells #[.int .i64 x1, .int .i64 x2] 35))
          have P4 := Lib.hid (hp3.below A4.out)
          have O4 := Lib.hid (row_below (row_off HO.out ht3 (fun g hg => hg)) A4.out)
          have X4 := Lib.hid (heap_alloc_new w3 (.cells #[.int .i64 x1, .int .i64 x2] 35))
          have B4 := Lib.hid (Bt B3.out A4.out)
          clear hp3 ht3 C2 HP HO B3
          go_wp2_with fail
          generalize w3.heap.size = xb at *
          generalize hw4 : w3.alloc (.cells #[.int .i64 x1, .int .i64 x2] 35) = w4 at *
          clear hw4 A4
          go_loopw [69, 12] (fun i a wi => ∃ (j : Nat) (z : Int), i = .int .i64 j ∧ a = .int .i64 z ∧ j ≤ m.length ∧ Hid (Seen m (x1, x2) j z) ∧ Hid (RowKit.Below w4.heap.size w4 wi)) (fun i _ _ => m.length - (intOf i).toNat)
          case atStart => exact ⟨0, -1, rfl, rfl, Nat.zero_le _, Lib.hid (Seen.zero m _), Lib.hid (Below.refl _ _)⟩
          case round =>
            obtain ⟨j, z, rfl, rfl, hj, hS, HBi⟩ := hrel
            generalize wr = wi at *
            obtain ⟨a1, a2, _⟩ := two_cells (blk_below X4.out HBi.out)
            have hxw := cell_lt a1
            by_cases hjm : j < m.length
            · have hjz : (j : Int) < m.length := by omega
              obtain ⟨g, rfl, hgw, _⟩ := HM3.out hm0
              obtain ⟨⟨e1, e2⟩, _, _⟩ := rowE (row_below O4.out HBi.out) hjm
              have hgi : g < wi.heap.size := cell_lt e1
              have hyx := HLS.out m[j]! (by rw [getElem!_pos m j hjm]; exact List.getElem_mem _)
              have HT := Lib.hid (fun h : m[j]! = ((x1, x2) : Hd) => Seen.hit (x := (x1, x2)) h)
              have HF := Lib.hid (fun h : m[j]! ≠ ((x1, x2) : Hd) => hS.out.miss h)
              generalize m[j]! = y at *
              obtain ⟨y1, y2⟩ := y
              dsimp only at e1 e2
              rw [ltH_eq] at hyx
              simp only [Bool.or_eq_false_iff, Bool.and_eq_false_iff, decide_eq_false_iff_not] at hyx
              obtain ⟨n1, n2⟩ := hyx
              by_cases hk1 : y1 = x1
              · have n3 : ¬ y2 < x2 := n2.resolve_left (fun c => c hk1)
                subst hk1
                clear n2
                by_cases hk2 : y2 = x2
                · subst hk2
                  have HS2 := Lib.hid (HT.out rfl)
                  clear HT HF
                  go_wp2
                  go_roundw
                  case rel => exact ⟨j + 1, j, by go_num, rfl, by omega, HS2, Lib.hid (Bt HBi.out (Ba (Below.refl _ _) _))⟩
                  case measure => simp [intOf]; omega
                · have HS2 := Lib.hid (HF.out (fun e => hk2 (Prod.mk.inj e).2))
                  have hd : decide (((y1, y2) : Hd) = (y1, x2)) = false := decide_eq_false (fun e => hk2 (Prod.mk.inj e).2)
                  clear HT HF
                  go_wp2
                  go_roundw
                  case rel => exact ⟨j + 1, z, by go_num, rfl, by omega, HS2, Lib.hid (Bt HBi.out (Ba (Below.refl _ _) _))⟩
                  case measure => simp [intOf]; omega
              · have HS2 := Lib.hid (HF.out (fun e => hk1 (Prod.mk.inj e).1))
                have hd : decide (((y1, y2) : Hd) = (x1, x2)) = false := decide_eq_false (fun e => hk1 (Prod.mk.inj e).1)
                clear HT HF n2
                go_wp2
                go_roundw
                case rel => exact ⟨j + 1, z, by go_num, rfl, by omega, HS2, Lib.hid (Bt HBi.out (Ba (Below.refl _ _) _))⟩
                case measure => simp [intOf]; omega
            · have hjz : ¬ (j : Int) < m.length := by omega
              obtain rfl : j = m.length := by omega
              obtain ⟨q, rfl, hq, hqx⟩ := hS.out.found HXM.out
              obtain ⟨g, rfl, hgw, _⟩ := HM3.out hm0
              have PE := Lib.hid (show (popL ltH L).Perm (m.eraseIdx q) from by
                have e1 := (erase_perm m q hq)
                rw [hqx] at e1
                exact List.Perm.cons_inv (HPM.out.symm.trans (hI.out.2.trans e1)))
              have HEL := Lib.hid (show (m.eraseIdx q).length + 1 = m.length by rw [List.length_eraseIdx_of_lt hq]; omega)
              clear hS hqx
              have b1 : q ≤ m.length := by omega
              have b2 : q ≤ cv := by omega
              have b3 : q + 1 ≤ m.length := by omega
              have b4 : q + 1 ≤ cv := by omega
              have D3 := Lib.hid (Bd (Below.refl _ wi))
              have O5 := Lib.hid (row_below O4.out HBi.out)
              have P5 := Lib.hid (P4.out.below HBi.out)
              have FR := Lib.hid (row_front lenH (row_below O5.out D3.out) rfl q b1)
              have TL := Lib.hid (rowE_tail (row_below O5.out D3.out) rfl (q + 1) b3)
              have LE := Lib.hid (show (m.take q).length + (m.drop (q + 1)).length ≤ 1000000 by simp; omega)
              have B5 := Lib.hid (Bt B4.out HBi.out)
              have Z5 := Lib.hid (show W.heap.size ≤ wi.drew.heap.size from B5.out.size)
              have hz0 : (0 : Int) ≤ (q : Int) + 1 := by omega
              have hz1 : (q : Int) + 1 ≤ (m.length : Int) := by omega
              have hz3 : ¬ (q : Int) < 0 := by omega
              have hwr : IntKind.i64.wrap ((q : Int) + 1) = (q : Int) + 1 := IntWalk.i64_in _ (by omega)
              have hwr2 : ((q : Int) + 1).toNat = q + 1 := by omega
              go_wp2_with fail
              go_region_held3 (fun _ => True) (trivial) ((refine step_app2 apH rfl (.tmp 104) (.tmp 108) rfl W.heap.size (by rfl) (by rfl) FR.out rfl TL.out LE.out Z5.out ?_; intro v5 w5 hown5 hgrow5 hat5 _))
              all_goals
                have P6 := Lib.hid ((P5.out.below D3.out).grown hown5 hgrow5 hat5)
                have B6 := Lib.hid (grownB (B5.out.trans (D3.out.mono B5.out.size)) FR.out hgrow5)
                rw [erase_split] at hown5
                obtain ⟨p5, c5, rfl, y1, y2, _⟩ := row_val hown5
                unfold maxLen at y2
                have O6 := Lib.hid hown5
                have LN := Lib.hid (lenO P6.out)
                rw [show (popL ltH L).length = (m.eraseIdx q).length by rw [HPN.out]; have := HEL.out; omega] at LN
                have HI2 := Lib.hid (show HeapL ltH (popL ltH L) ∧ (popL ltH L).Perm (m.eraseIdx q) from ⟨HPH.out, PE.out⟩)
                have HMN := Lib.hid (show (m.eraseIdx q).length ≤ n by have := HEL.out; omega)
                unfold psP at LN
                clear hown5 hgrow5 hat5 hwr hwr2
                go_wp2_with fail
                all_goals
                  refine LN.out.mono ?_
                  rintro e w6 ⟨rfl, rfl⟩
                  go_wp2
                  go_roundw
                  case rel => exact ⟨k + 1, n, _, m.eraseIdx q, by go_num, rfl, by omega, hn, HMN.out, P6.out, O6.out, HI2, B6⟩
                  case measure => simp [intOf]; omega
    · have hkz : ¬ (k : Int) < ps.length := by omega
      go_wp2
      go_ret
      exact ⟨rfl, HB.out⟩
end Go.Proofs.YtaceahjomhgccaaDoor
