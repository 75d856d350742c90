/-
  OrderCounts: what stands in either of two lists is the first one, and what stands in the second one alone.
-/
import Derived.Test.YtdpcdfjgpechbaaConcat
import Derived.Test.YtdpcdfjgpechbaaFinds
namespace Go.Proofs.Ytdpcdfjgpechbaa
set_option linter.unusedSimpArgs false
set_option linter.unusedVariables false
open Go.RowKit Go.Sort Go.Lib Go.Shelf

theorem head_at {l : List Hd} (hr : Rise ltH l) {k : Nat} (hk : k < l.length) : headLess ltH l[k]! l = k := by
  refine head_eq (Nat.le_of_lt hk) (fun t ht => ?_) (fun _ => sto_hd.irrefl _)
  have := rise_lt hr ht hk
  rwa [← getElem!_pos l t (by omega), ← getElem!_pos l k hk] at this

theorem find_yes (l : List Hd) (v : Value) (x1 x2 : Int) (w : World) (hl : Sl encH w v l) (hr : Rise ltH l) (hlen : l.length ≤ 100000) (hx : ((x1, x2) : Hd) ∈ l) :
    Calls Try.prog 22 #[v, .agg #[.int .i64 x1, .int .i64 x2]] w fun e w' => e = .returned (.int .i64 (headLess ltH (x1, x2) l : Nat)) ∧ Gr w w' := by
  have := find_call l v x1 x2 w hl hr hlen
  rwa [if_pos hx] at this
theorem find_no (l : List Hd) (v : Value) (x1 x2 : Int) (w : World) (hl : Sl encH w v l) (hr : Rise ltH l) (hlen : l.length ≤ 100000) (hx : ¬ ((x1, x2) : Hd) ∈ l) :
    Calls Try.prog 22 #[v, .agg #[.int .i64 x1, .int .i64 x2]] w fun e w' => e = .returned (.int .i64 (-1)) ∧ Gr w w' := by
  have := find_call l v x1 x2 w hl hr hlen
  rwa [if_neg hx] at this

set_option maxHeartbeats 4000000 in
set_option maxRecDepth 100000 in
theorem orderCounts_walk (la lb : List Hd) (va vb : Value) (w : World) (ha : Sl encH w va la) (hb : Sl encH w vb lb) : Calls Try.prog 10 #[va, vb] w fun e w' => e = .returned (.bool true) ∧ RowKit.Below w.heap.size w w' := by
  obtain ⟨pa, ca, rfl, ha1, ha2, ha3⟩ := ha
  obtain ⟨pb, cb, rfl, hb1, hb2, hb3⟩ := hb
  have HA := Lib.hid (show Sl encH w (.slice pa la.length ca) la from ⟨pa, ca, rfl, ha1, ha2, ha3⟩)
  have HB := Lib.hid (show Sl encH w (.slice pb lb.length cb) lb from ⟨pb, cb, rfl, hb1, hb2, hb3⟩)
  clear ha3 hb3
  by_cases hba : la.length > 100
  · have hz : (la.length : Int) > 100 := by omega
    go_enter Try.func10, Try.ntmps10
    go_wp2_with (go_at_call 12; refine (alive_any _).mono ?_; rintro e w1 ⟨rfl, hb1⟩)
    go_ret
    exact ⟨rfl, hb1⟩
  · have hz : ¬ (la.length : Int) > 100 := by omega
    by_cases hbb : lb.length > 100
    · have hz2 : (lb.length : Int) > 100 := by omega
      go_enter Try.func10, Try.ntmps10
      go_wp2_with (go_at_call 12; refine (alive_any _).mono ?_; rintro e w1 ⟨rfl, hb1⟩)
      go_ret
      exact ⟨rfl, hb1⟩
    · have hz2 : ¬ (lb.length : Int) > 100 := by omega
      have hlen : la.length ≤ 100 := by omega
      have hlen2 : lb.length ≤ 100 := by omega
      clear hba hbb
      go_enter Try.func10, Try.ntmps10
      go_wp2_with fail
      refine (alive_any _).mono ?_
      rintro e w1 ⟨rfl, hb1⟩
      have B1 := Lib.hid hb1
      have L1 := Lib.hid (HA.out.below hb1)
      clear hb1
      go_wp2_with fail
      refine (handles_call la _ w1 L1.out (by omega)).mono ?_
      rintro e w2 ⟨vx, rfl, ho2, hb2⟩
      have B2 := Lib.hid (Bt B1.out hb2)
      have SX2 := Lib.hid (ho2.sl lenH)
      have L2 := Lib.hid (HB.out.below B2.out)
      clear ho2 hb2 B1 L1
      go_wp2_with fail
      refine (handles_call lb _ w2 L2.out (by omega)).mono ?_
      rintro e w3 ⟨vy, rfl, ho3, hb3⟩
      have B3 := Lib.hid (Bt B2.out hb3)
      have SY3 := Lib.hid (ho3.sl lenH)
      have SX3 := Lib.hid (SX2.out.below hb3)
      have RX := Lib.hid (rise_srt sto_hd la)
      have RY := Lib.hid (rise_srt sto_hd lb)
      have MX := Lib.hid (show (srt ltH la).length ≤ 100 from Nat.le_trans (srt_len ltH la) hlen)
      have MY := Lib.hid (show (srt ltH lb).length ≤ 100 from Nat.le_trans (srt_len ltH lb) hlen2)
      generalize srt ltH la = X at SX3 RX MX
      generalize srt ltH lb = Y at SY3 RY MY
      clear ho3 hb3 SX2 L2 B2
      have hxl : X.length ≤ 100 := MX.out
      have hyl : Y.length ≤ 100 := MY.out
      go_wp2_with fail
      refine (merge_call X Y _ _ w3 SX3.out SY3.out (by omega) (by omega)).mono ?_
      rintro e w4 ⟨vm, rfl, hom, hbm⟩
      have SM := Lib.hid (hom.sl lenH)
      have B4 := Lib.hid (Bt B3.out hbm)
      have SX4 := Lib.hid (SX3.out.below hbm)
      have SY4 := Lib.hid (SY3.out.below hbm)
      have RU := Lib.hid (rise_srt sto_hd (X ++ Y))
      have MU := Lib.hid (show ∀ z, z ∈ srt ltH (X ++ Y) ↔ z ∈ X ∨ z ∈ Y from fun z => by rw [mem_srt sto_hd]; simp)
      have EU := Lib.hid (show srt ltH (Y ++ X) = srt ltH (X ++ Y) from srt_eq sto_hd RU.out fun z => by rw [MU.out z]; simp [or_comm])
      have LU := Lib.hid (show (srt ltH (X ++ Y)).length ≤ 200 by have := srt_len ltH (X ++ Y); simp at this; omega)
      generalize srt ltH (X ++ Y) = U at SM RU MU EU LU
      clear hom hbm SX3 SY3 B3
      obtain ⟨pm, cm, rfl, hm1, hm2, hm3⟩ := SM.out
      obtain ⟨px, cx, rfl, hx1, hx2, hx3⟩ := SX4.out
      have HM := Lib.hid hm3
      have hul : U.length ≤ 200 := LU.out
      clear hm3 hx3 hm2 hx2
      go_wp2_with fail
      refine (minus_call Y X _ _ w4 SY4.out SX4.out RX.out (by omega) (by omega)).mono ?_
      rintro e w5 ⟨vd, rfl, hod, hbd⟩
      have HLEN : U.length = X.length + (Y.filter fun z => !decide (z ∈ X)).length := by
        refine (len_union sto_hd RX.out RY.out RU.out MU.out).trans ?_
        congr 2
        refine List.filter_congr fun z _ => ?_
        by_cases hz : z ∈ X <;> simp [hz]
      have B5 := Lib.hid (Bt B4.out hbd)
      have SX5 := Lib.hid (SX4.out.below hbd)
      have SY5 := Lib.hid (SY4.out.below hbd)
      have SM5 := Lib.hid (SM.out.below hbd)
      obtain ⟨pd, cd, rfl, hd1, _, _⟩ := hod
      generalize (Y.filter fun z => !decide (z ∈ X)).length = D at HLEN hd1 ⊢
      have hz5 : (U.length : Int) = (X.length : Int) + (D : Int) := by omega
      clear hbd SX4 SY4 B4 HLEN
      go_wp2_with fail
      refine (merge_call Y X _ _ w5 SY5.out SX5.out (by omega) (by omega)).mono ?_
      rintro e w6 ⟨vn, rfl, hon, hbn⟩
      rw [EU.out] at hon
      have SN := Lib.hid (hon.sl lenH)
      have B6 := Lib.hid (Bt B5.out hbn)
      have SX6 := Lib.hid (SX5.out.below hbn)
      have SY6 := Lib.hid (SY5.out.below hbn)
      have SM6 := Lib.hid (SM5.out.below hbn)
      clear hon hbn SX5 SY5 B5 SM5
      go_wp2_with fail
      refine (same_call _ _ _ _ w6 SM6.out SN.out).mono ?_
      rintro e w7 ⟨rfl, hg7⟩
      have hq1 : decide (U = U) = true := decide_eq_true rfl
      have B7 := Lib.hid (Bt B6.out hg7.below)
      have SX7 := Lib.hid (SX6.out.below hg7.below)
      have SY7 := Lib.hid (SY6.out.below hg7.below)
      have SM7 := Lib.hid (SM6.out.below hg7.below)
      clear hg7 SX6 SY6 SM6 B6 SN SM HM hz5
      obtain ⟨_, _, e, _, _, h3⟩ := SM7.out
      simp only [Value.slice.injEq] at e
      obtain ⟨rfl, _, rfl⟩ := e
      have HM := Lib.hid h3
      clear h3
      go_wp2_with fail
      go_loopw [47] (fun i wr => ∃ k : Nat, k ≤ U.length ∧ i = .int .i64 k ∧ RowKit.Below w7.heap.size w7 wr) (fun i _ => U.length - (intOf i).toNat)
      case atStart => exact ⟨0, Nat.zero_le _, rfl, Below.refl _ _⟩
      case round =>
        obtain ⟨k, hk, rfl, hb⟩ := hrel
        by_cases hkn : k < U.length
        · obtain ⟨g, o, rfl, hg1, hg2⟩ := HM.out (by omega)
          obtain ⟨c1, c2⟩ := atH hg2 hkn
          replace c1 := Bc hb hg1 c1
          replace c2 := Bc hb hg1 c2
          have hha := head_at RU.out hkn
          have hmu : U[k]! ∈ U := by rw [getElem!_pos U k hkn]; simp
          have hxy := (MU.out _).1 hmu
          generalize hx : U[k]! = x at *
          obtain ⟨x1, x2⟩ := x
          dsimp only at c1 c2
          have HBB := Lib.hid (Ba hb (.cells #[.int .i64 x1, .int .i64 x2] 28))
          have FU := Lib.hid (find_yes U _ x1 x2 (wr.alloc (.cells #[.int .i64 x1, .int .i64 x2] 28)) (SM7.out.below HBB.out) RU.out (by omega) hmu)
          rw [hha] at FU
          clear hg2 hx hb hmu hha
          go_wp2_with fail
          refine FU.out.mono ?_
          rintro e w8 ⟨rfl, hg8⟩
          have b8 := hg8.below
          have B8 := Lib.hid (Bt HBB.out b8)
          have d1 : w8.cell? ⟨wr.heap.size, 0, none⟩ = some (.int .i64 x1) := Bc b8 (by simp) (by simp)
          have d2 : w8.cell? ⟨wr.heap.size, 1, none⟩ = some (.int .i64 x2) := Bc b8 (by simp) (by simp)
          clear hg8 b8
          by_cases hX : ((x1, x2) : Hd) ∈ X
          · have FX := Lib.hid (find_yes X _ x1 x2 w8 (SX7.out.below B8.out) RX.out (by omega) hX)
            have hnn : ¬ (((headLess ltH (x1, x2) X : Nat) : Int) < 0) := by omega
            clear hX hxy
            go_wp2_with fail
            refine FX.out.mono ?_
            rintro e w9 ⟨rfl, hg9⟩
            have B9 := Lib.hid (Bt B8.out hg9.below)
            clear hg9
            go_wp2
            go_roundw
            case measure => simp [intOf]; omega
            case rel => exact ⟨k + 1, by omega, by go_num, B9.out⟩
          · have FX := Lib.hid (find_no X _ x1 x2 w8 (SX7.out.below B8.out) RX.out (by omega) hX)
            have hY : ((x1, x2) : Hd) ∈ Y := hxy.resolve_left hX
            have HY := Lib.hid hY
            have hnn : ¬ (((headLess ltH (x1, x2) Y : Nat) : Int) < 0) := by omega
            clear hX hxy hY
            go_wp2_with fail
            refine FX.out.mono ?_
            rintro e w9 ⟨rfl, hg9⟩
            have B9 := Lib.hid (Bt B8.out hg9.below)
            have d3 := Bc hg9.below (cell_lt d1) d1
            have d4 := Bc hg9.below (cell_lt d2) d2
            have FY := Lib.hid (find_yes Y _ x1 x2 w9 (SY7.out.below B9.out) RY.out (by omega) HY.out)
            clear hg9 d1 d2
            go_wp2_with fail
            refine FY.out.mono ?_
            rintro e w10 ⟨rfl, hg10⟩
            have B10 := Lib.hid (Bt B9.out hg10.below)
            clear hg10
            go_wp2
            go_roundw
            case measure => simp [intOf]; omega
            case rel => exact ⟨k + 1, by omega, by go_num, B10.out⟩
        · have BE := Lib.hid (Bt B7.out hb)
          clear hb
          go_wp2
          go_ret
          exact ⟨by simp, BE.out⟩
end Go.Proofs.Ytdpcdfjgpechbaa
