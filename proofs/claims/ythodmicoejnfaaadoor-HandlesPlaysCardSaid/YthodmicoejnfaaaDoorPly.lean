/-
  HandlesPlays, walked.
-/
import Derived.Test.YthodmicoejnfaaaDoorDf
namespace Go.Proofs.YthodmicoejnfaaaDoor
set_option linter.unusedSimpArgs false
set_option linter.unusedVariables false
open Go.RowKit Go.Sort Go.Lib Go.Shelf

section
variable {pa pb : Nat} {S : List Slt} {Fr : List Int} {w w0 : World}

/-- The block of a call, and what was there ahead of all. -/
def OpR (w0 : World) (bo : Nat) (kd n hi hgn : Int) (W : World) : Prop :=
  W.heap[bo]? = some (.cells #[.int .i64 kd, .int .i64 n, .int .i64 hi, .int .i64 hgn] 42 (0, 0)) ∧ RowKit.Below w0.heap.size w0 W
abbrev OpS (w0 : World) (bo : Nat) (kd n hi hgn : Int) (W : World) : Prop :=
  W.cell? ⟨bo, 0, none⟩ = some (.int .i64 kd) ∧ W.cell? ⟨bo, 1, none⟩ = some (.int .i64 n) ∧ W.cell? ⟨bo, 2, none⟩ = some (.int .i64 hi) ∧ W.cell? ⟨bo, 3, none⟩ = some (.int .i64 hgn) ∧ OpR w0 bo kd n hi hgn W
theorem OpS.mk {bo : Nat} {kd n hi hgn : Int} {W : World} (h : W.heap[bo]? = some (.cells #[.int .i64 kd, .int .i64 n, .int .i64 hi, .int .i64 hgn] 42 (0, 0))) (hb : RowKit.Below w0.heap.size w0 W) : OpS w0 bo kd n hi hgn W :=
  ⟨by simp [World.cell?, h], by simp [World.cell?, h], by simp [World.cell?, h], by simp [World.cell?, h], h, hb⟩
theorem OpS.below {bo : Nat} {kd n hi hgn : Int} {W W' : World} (h : OpS w0 bo kd n hi hgn W) (k : RowKit.Below W.heap.size W W') : OpS w0 bo kd n hi hgn W' :=
  OpS.mk (blk_below h.2.2.2.2.1 k) (h.2.2.2.2.2.trans (k.mono h.2.2.2.2.2.size))
theorem OpS.both {bo : Nat} {kd n hi hgn : Int} {W W' : World} (h : OpS w0 bo kd n hi hgn W) (k : Both w0 W W') : OpS w0 bo kd n hi hgn W' :=
  OpS.mk (k.2 _ _ _ h.2.2.2.2.1) k.1
theorem OpS.lo {bo : Nat} {kd n hi hgn : Int} {W : World} (h : OpS w0 bo kd n hi hgn W) : RowKit.Below w0.heap.size w0 W := h.2.2.2.2.2

/-- The elder pool takes a handle. -/
theorem take_old {M : Nat → Prop} (hp : PoolAt 67 w M pa S Fr) (r : Right S Fr) (t : TypeId) (v : Value) (hE : w.cell? ⟨2, 0, none⟩ = some (.iface t v)) :
    Calls Tryd.prog 16 #[.pointer (some ⟨pa, 0, none⟩)] w fun e w' => (∃ u, e = .returned u) ∧ Tch M w w' := by
  cases ht : takeP S Fr with
  | none => exact (take_none hp ht t v hE).mono fun e w' ⟨a, b⟩ => ⟨⟨_, a⟩, Tch.of b⟩
  | some q =>
    obtain ⟨h, S', Fr'⟩ := q
    exact (take_call hp r ht).mono fun e w' ⟨a, _, c⟩ => ⟨⟨_, a⟩, c⟩

set_option maxHeartbeats 4000000 in
set_option maxRecDepth 100000 in
theorem plays_walk (S0 : List Slt) (F0 : List Int) (l : List Opr) (vs vf vo : Value) (hs : Sl encS w vs S0) (hf : Sl encI w vf F0) (ho : Sl encO w vo l) (A : Nat → Addr) (hE : Errs w A) :
    Calls Tryd.prog 3 #[vs, vf, vo] w fun e w' => e = .returned (.bool true) ∧ RowKit.Below w.heap.size w w' := by
  have HS := Lib.hid hs
  have HF := Lib.hid hf
  have HE := Lib.hid hE
  obtain ⟨p0, c0, rfl, a1, a2, _⟩ := hs
  obtain ⟨p1, c1, rfl, b1, b2, _⟩ := hf
  obtain ⟨p2, c2, rfl, e1, e2, e3⟩ := ho
  unfold maxLen at a2 b2 e2
  have HO := Lib.hid e3
  clear e3 hE
  by_cases hbig : S0.length ≤ 300 ∧ F0.length ≤ 300 ∧ l.length ≤ 60
  · obtain ⟨g1, g2, g3⟩ := hbig
    have n1 : ¬ (300 : Int) < (S0.length : Int) := by omega
    have n2 : ¬ (300 : Int) < (F0.length : Int) := by omega
    have n3 : ¬ (60 : Int) < (l.length : Int) := by omega
    go_enter Tryd.func3, Tryd.ntmps3
    go_wp2_with fail
    refine (alive_any w).mono ?_
    rintro e w1 ⟨rfl, hb1⟩
    have B1 := Lib.hid hb1
    clear hb1
    go_wp2_with fail
    refine (numInts_call F0 _ w1 (HF.out.below B1.out) (by omega)).mono ?_
    rintro e w2 ⟨gi, ci, rfl, hrow, hb2⟩
    have B2 := Lib.hid (B1.out.trans (hb2.mono B1.out.size))
    have ROW2 := Lib.hid hrow
    have SI2 : Hid (Sl encI w2 (.slice (some ⟨gi, 0, none⟩) F0.length ci) F0) := by
      have := row_sl lenI (frontI hrow (by simp [marks]) F0.length (by omega)) (by simp)
      rwa [List.take_left] at this
    clear hrow hb2
    by_cases hR : Right S0 F0
    · have HR := Lib.hid hR
      clear hR
      go_wp2_with fail
      refine (from_yes _ _ (HS.out.below B2.out) SI2.out HR.out).mono ?_
      rintro e w3 ⟨pa, rfl, hp3, hb3⟩
      have B3 := Lib.hid (B2.out.trans (hb3.mono B2.out.size))
      have P3 := Lib.hid (PoolX.new (base := w.heap.size) (X := NoX) (w0 := w2) hp3 B2.out.size hb3.size (noX w2))
      have ROW3 := Lib.hid (row_below ROW2.out hb3)
      clear hp3 hb3
      go_wp2_with fail
      refine (form_call _ _ (HS.out.below B3.out) (HF.out.below B3.out)).mono ?_
      rintro e w4 ⟨b, rfl, hbb, hb4⟩
      obtain rfl : b = true := hbb.2 HR.out
      have B4 := Lib.hid (B3.out.trans (hb4.mono B3.out.size))
      have P4 := Lib.hid (P3.out.below hb4)
      have ROW4 := Lib.hid (row_below ROW3.out hb4)
      clear hbb hb4
      go_wp2_with fail
      refine (keptInts_call F0 _ gi ci _ w4 ROW4.out (HF.out.below B4.out) (by omega)).mono ?_
      rintro e w5 ⟨rfl, hg5⟩
      have B5 := Lib.hid (B4.out.trans (hg5.below.mono B4.out.size))
      have P5 := Lib.hid (P4.out.below hg5.below)
      clear hg5
      have D5 := Lib.hid (Ba (Below.refl _ w5) (.cells #[.slice p0 S0.length c0, .slice p1 F0.length c1] 37))
      have B6 := Lib.hid (B5.out.trans (D5.out.mono B5.out.size))
      have P6 := Lib.hid (P5.out.below D5.out)
      have CP := Lib.hid (copy_call (pa := w5.heap.size) _ _ (heap_alloc_new w5 (.cells #[.slice p0 S0.length c0, .slice p1 F0.length c1] 37)) (HS.out.below B6.out) (HF.out.below B6.out) (by omega) (by omega))
      go_wp2_with fail
      refine CP.out.mono ?_
      rintro e w7 ⟨pb, rfl, hp7, hb7⟩
      have Q7 := Lib.hid (Two.of P6.out hp7 hb7)
      have B7 := Lib.hid (B6.out.trans (hb7.mono B6.out.size))
      clear hp7 hb7 CP P6 P5 P4 P3 ROW2 ROW3 ROW4 SI2
      go_wp2_with fail
      go_loopw [8, 70] (fun p i wr => ∃ (k pa : Nat) (S : List Slt) (Fr : List Int), k ≤ l.length ∧ p = .pointer (some ⟨pa, 0, none⟩) ∧ i = .int .i64 k ∧ Two 67 37 w.heap.size wr pa S Fr pb S Fr ∧ Right S Fr ∧ RowKit.Below w.heap.size w wr) (fun _ i _ => l.length - (intOf i).toNat)
      case atStart => exact ⟨0, pa, S0, F0, Nat.zero_le _, rfl, rfl, Q7.out, HR.out, B7.out⟩
      case round =>
        clear Q7 HR B7
        obtain ⟨k, pa, S, Fr, hk, rfl, rfl, hq, r, hb⟩ := hrel
        have HQ := Lib.hid hq
        have RR := Lib.hid r
        have BR := Lib.hid hb
        have hsl := r.len
        have hfl := r.freeLen
        clear hq r hb
        by_cases hkn : k < l.length
        · obtain ⟨g, o, rfl, hg, cO⟩ := HO.out (by omega)
          obtain ⟨d1, d2, d3, d4⟩ := atO cO hkn
          replace d1 := Bc BR.out hg d1
          replace d2 := Bc BR.out hg d2
          replace d3 := Bc BR.out hg d3
          replace d4 := Bc BR.out hg d4
          clear cO
          generalize l[k]!.1 = kd at *
          generalize l[k]!.2.1 = n at *
          generalize l[k]!.2.2.1 = hi at *
          generalize l[k]!.2.2.2 = hgn at *
          have D1 := Lib.hid (Ba (Below.refl _ wr) (.cells #[.int .i64 kd, .int .i64 n, .int .i64 hi, .int .i64 hgn] 42))
          have Q1 := Lib.hid (HQ.out.below D1.out)
          have C1 := Lib.hid (BR.out.trans (D1.out.mono BR.out.size))
          by_cases h4 : kd = 4
          · subst h4
            have CL := Lib.hid (clone_call Q1.out.first.choose_spec (by omega) (by omega))
            go_wp2_with fail
            refine CL.out.mono ?_
            rintro e w8 ⟨pc, rfl, hp8, hb8⟩
            have C8 := Lib.hid (C1.out.trans (hb8.mono C1.out.size))
            have TK := Lib.hid (Two.clone (P := fun e => ∃ u, e = .returned u) Q1.out hp8 hb8 (fun M hM => take_old hM RR.out _ _ (errFull_at (HE.out.below C8.out))))
            clear hp8 hb8
            go_wp2_with fail
            refine TK.out.mono ?_
            rintro e w9 ⟨⟨u, rfl⟩, hq9, hb9⟩
            have Q9 := Lib.hid hq9
            have C9 := Lib.hid (C1.out.trans hb9)
            clear hq9 hb9
            go_wp2
            go_roundw
            case measure => simp [intOf]; omega
            case rel => exact ⟨k + 1, pc, S, Fr, by omega, rfl, by go_num, Q9.out, RR.out, C9.out⟩
          · have k4 : (kd == 4) = false := by simpa using h4
            clear h4
            have K0 := Lib.hid (OpS.mk (w0 := w) (W := (wr.alloc (.cells #[.int .i64 kd, .int .i64 n, .int .i64 hi, .int .i64 hgn] 42)).drew) (heap_alloc_new wr (.cells #[.int .i64 kd, .int .i64 n, .int .i64 hi, .int .i64 hgn] 42)) (Bd C1.out))
            have HDO := Lib.hid (do_call (w := (wr.alloc (.cells #[.int .i64 kd, .int .i64 n, .int .i64 hi, .int .i64 hgn] 42)).drew) (HQ.out.below (Bd D1.out)) RR.out (Bd C1.out) A HE.out kd n hi hgn)
            go_wp2_with fail
            go_region_held3 (fun W => W.cell? ⟨wr.heap.size, 0, none⟩ = some (.int .i64 kd) ∧ W.cell? ⟨wr.heap.size, 1, none⟩ = some (.int .i64 n) ∧ W.cell? ⟨wr.heap.size, 2, none⟩ = some (.int .i64 hi) ∧ W.cell? ⟨wr.heap.size, 3, none⟩ = some (.int .i64 hgn) ∧ OpR w wr.heap.size kd n hi hgn W) (first | exact K0.out | exact OpS.both (by assumption) bD | exact OpS.below (by assumption) hbL) ((first | (go_at_call 17; refine HDO.out.mono ?_; rintro e w1 ⟨S1, F1, rfl, tD, rD, bD⟩; have HL1 := Lib.hid (fun W (h : RowKit.Below w1.heap.size w1 W) => lives_call (tD.below h).first.choose_spec hi hgn); have HL2 := Lib.hid (fun W (h : RowKit.Below w1.heap.size w1 W) => rlives_call (tD.below h).second.choose_spec hi hgn)) | (go_at_call 18; refine (HL1.out _ ?_).mono ?_; (first | exact Below.refl _ _ | exact hbL); rintro e w1 ⟨rfl, hbL⟩; (first | (have tY := tD.below hbL) | (have tZ := tY.below hbL))) | (go_at_call 19; refine (HL2.out _ ?_).mono ?_; (first | exact Below.refl _ _ | exact hbL); rintro e w1 ⟨rfl, hbL⟩; (first | (have tY := tD.below hbL) | (have tZ := tY.below hbL)))))
            all_goals
              have C2 := Lib.hid (OpS.lo (w0 := w) (bo := wr.heap.size) (kd := kd) (n := n) (hi := hi) (hgn := hgn) (by assumption))
              have T2 := Lib.hid tZ
              have RD := Lib.hid rD
              have hs1 := rD.len
              have hf1 := rD.freeLen
              have ML := Lib.hid (rlist_call T2.out.second.choose_spec (by omega))
              clear tD tY tZ rD bD hbL HL1 HL2
              go_wp2_with fail
              refine ML.out.mono ?_
              rintro e w3 ⟨v3, rfl, ho3, hb3⟩
              have L3 := Lib.hid (row_sl lenH ho3 rfl)
              obtain ⟨q3, j3, rfl, _, _, _⟩ := row_val ho3
              have T3 := Lib.hid (T2.out.below hb3)
              have C3 := Lib.hid (C2.out.trans (hb3.mono C2.out.size))
              clear ho3 hb3
              go_wp2_with fail
              refine (slots_call T3.out.first.choose_spec (by omega) (by omega)).mono ?_
              rintro e w4 ⟨v4, v5, rfl, ho4, ho5, hb4⟩
              have L4 := Lib.hid (row_sl lenS ho4 rfl)
              have L5 := Lib.hid (row_sl lenI ho5 rfl)
              obtain ⟨q4, j4, rfl, _, _, _⟩ := row_val ho4
              obtain ⟨q5, j5, rfl, _, _, _⟩ := row_val ho5
              have T4 := Lib.hid (T3.out.below hb4)
              have C4 := Lib.hid (C3.out.trans (hb4.mono C3.out.size))
              have K4 := Lib.hid (L3.out.below hb4)
              clear ho4 ho5 hb4
              go_wp2_with fail
              refine (count_call T4.out.first.choose_spec (by omega)).mono ?_
              rintro e w5 ⟨rfl, hb5⟩
              have T5 := Lib.hid (T4.out.below hb5)
              have C5 := Lib.hid (C4.out.trans (hb5.mono C4.out.size))
              have K5 := Lib.hid (K4.out.below hb5)
              have L6 := Lib.hid (L4.out.below hb5)
              have L7 := Lib.hid (L5.out.below hb5)
              clear hb5
              go_wp2_with fail
              refine (list_call T5.out.first.choose_spec (by omega)).mono ?_
              rintro e w6 ⟨v6, rfl, ho6, hb6⟩
              have K6 := Lib.hid (row_sl lenH ho6 rfl)
              obtain ⟨q6, j6, rfl, _, _, _⟩ := row_val ho6
              have T6 := Lib.hid (T5.out.below hb6)
              have C6 := Lib.hid (C5.out.trans (hb6.mono C5.out.size))
              have K7 := Lib.hid (K5.out.below hb6)
              have L8 := Lib.hid (L6.out.below hb6)
              have L9 := Lib.hid (L7.out.below hb6)
              clear ho6 hb6
              go_wp2_with fail
              refine (same_call (listP S1) (listP S1) _ _ w6 K6.out K7.out).mono ?_
              rintro e w7 ⟨rfl, hg7⟩
              have T7 := Lib.hid (T6.out.below hg7.below)
              have C7 := Lib.hid (C6.out.trans (hg7.below.mono C6.out.size))
              have M1 := Lib.hid (rsame_call T7.out.second.choose_spec _ _ (L8.out.below hg7.below) (L9.out.below hg7.below))
              clear hg7
              go_wp2_with fail
              refine M1.out.mono ?_
              rintro e w8 ⟨rfl, hb8⟩
              have T8 := Lib.hid (T7.out.below hb8)
              have C8 := Lib.hid (C7.out.trans (hb8.mono C7.out.size))
              clear hb8
              go_wp2
              go_roundw
              case measure => simp [intOf]; omega
              case rel => exact ⟨k + 1, pa, S1, F1, by omega, rfl, by go_num, T8.out, RD.out, C8.out⟩
        · go_wp2
          go_ret
          exact ⟨rfl, BR.out⟩
    · have HN := Lib.hid hR
      clear hR
      go_wp2_with fail
      refine (from_no _ _ (HS.out.below B2.out) SI2.out HN.out _ _ (errForm_at (HE.out.below B2.out))).mono ?_
      rintro e w3 ⟨rfl, hb3⟩
      have B3 := Lib.hid (B2.out.trans (hb3.mono B2.out.size))
      clear hb3
      go_wp2_with fail
      refine (form_call _ _ (HS.out.below B3.out) (HF.out.below B3.out)).mono ?_
      rintro e w4 ⟨b, rfl, hbb, hb4⟩
      obtain rfl : b = false := bool_no hbb HN.out
      have B4 := Lib.hid (B3.out.trans (hb4.mono B3.out.size))
      clear hbb hb4
      go_wp2_with fail
      refine (num_form (HE.out.below B4.out)).mono ?_
      rintro e w5 ⟨rfl, hb5⟩
      have B5 := Lib.hid (B4.out.trans (hb5.mono B4.out.size))
      clear hb5
      go_wp2
      go_ret
      exact ⟨rfl, B5.out⟩
  · by_cases g1 : S0.length ≤ 300
    · have n1 : ¬ (300 : Int) < (S0.length : Int) := by omega
      by_cases g2 : F0.length ≤ 300
      · have n2 : ¬ (300 : Int) < (F0.length : Int) := by omega
        have n3 : (60 : Int) < (l.length : Int) := by omega
        clear hbig
        go_enter Tryd.func3, Tryd.ntmps3
        go_wp2_with fail
        refine (alive_any w).mono ?_
        rintro e w1 ⟨rfl, hb1⟩
        go_wp2
        go_ret
        exact ⟨rfl, hb1⟩
      · have n2 : (300 : Int) < (F0.length : Int) := by omega
        clear hbig
        go_enter Tryd.func3, Tryd.ntmps3
        go_wp2_with fail
        refine (alive_any w).mono ?_
        rintro e w1 ⟨rfl, hb1⟩
        go_wp2
        go_ret
        exact ⟨rfl, hb1⟩
    · have n1 : (300 : Int) < (S0.length : Int) := by omega
      clear hbig
      go_enter Tryd.func3, Tryd.ntmps3
      go_wp2_with fail
      refine (alive_any w).mono ?_
      rintro e w1 ⟨rfl, hb1⟩
      go_wp2
      go_ret
      exact ⟨rfl, hb1⟩
end
end Go.Proofs.YthodmicoejnfaaaDoor
