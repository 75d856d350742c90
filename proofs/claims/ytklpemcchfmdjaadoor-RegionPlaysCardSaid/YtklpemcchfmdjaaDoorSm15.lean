/-
  RegionPlays: same.
-/
import Derived.Test.YtklpemcchfmdjaaDoorAl15
import Derived.Test.YtklpemcchfmdjaaDoorMg15
import Derived.BigQuiet
namespace Go.Proofs.YtklpemcchfmdjaaDoor
set_option linter.unusedSimpArgs false
set_option linter.unusedVariables false
open BigFrame
open Go.RowKit Go.Sort Go.Lib Go.Shelf

/-- How often each label stands in the first k places. -/
def manyF (L : List Int) (k : Nat) (x : Int) : Option Int := if 0 ≤ x ∧ 0 < cntL (L.take k) x then some (cntL (L.take k) x : Int) else none
theorem manyF_get {L : List Int} {k : Nat} {x : Int} (hx : 0 ≤ x) : (manyF L k x).getD 0 = (cntL (L.take k) x : Int) := by
  unfold manyF
  by_cases h : 0 < cntL (L.take k) x
  · rw [if_pos ⟨hx, h⟩]; rfl
  · rw [if_neg (fun q => h q.2)]
    simp
    omega
theorem manyF_put {L : List Int} {k : Nat} (hk : k < L.length) (h0 : 0 ≤ L[k]!) (z : Int) : (if z = L[k]! then some (((cntL (L.take k) L[k]! : Nat) : Int) + 1) else manyF L k z) = manyF L (k + 1) z := by
  unfold manyF
  rw [cntL_take hk z]
  by_cases e : z = L[k]!
  · subst e
    rw [if_pos rfl, if_pos rfl, if_pos ⟨h0, by omega⟩]
    congr 1
  · rw [if_neg e, if_neg (c := L[k]! = z) (fun q => e q.symm)]
    rfl
theorem manyF_skip {L : List Int} {k : Nat} (hk : k < L.length) (h0 : L[k]! < 0) (z : Int) : manyF L k z = manyF L (k + 1) z := by
  unfold manyF
  rw [cntL_take hk z]
  by_cases e : 0 ≤ z
  · rw [if_neg (c := L[k]! = z) (fun q => by omega)]
    rfl
  · rw [if_neg (fun q => e q.1), if_neg (fun q => e q.1)]
theorem manyF_new {L : List Int} (h : Rooted L) {k : Nat} (hk : k < L.length) (h0 : 0 ≤ L[k]!) : (if (manyF L k L[k]!).isSome = true then rootN L k else rootN L k + 1) = rootN L (k + 1) := by
  rw [rootN_succ]
  have hf := first_root h hk h0
  rw [← cntL_pos] at hf
  by_cases e : L[k]! = (k : Int)
  · have hs : ¬ (manyF L k L[k]!).isSome = true := by
      unfold manyF
      rw [if_neg (fun q => (hf.1 q.2) e)]
      simp
    rw [if_neg hs, if_pos e]
  · have hs : (manyF L k L[k]!).isSome = true := by
      unfold manyF
      rw [if_pos ⟨h0, hf.2 e⟩]
      rfl
    rw [if_pos hs, if_neg e]
    rfl
theorem tog_zero {L : List Int} (h0 : 0 < L.length) {t : Nat} (ht : t < L.length) : togI L 0 (t : Int) = (decide (0 ≤ L[t]!) && decide (L[t]! = L[0]!)) := by
  unfold togI
  rw [show inT L.length 0 = true from inT_iff.2 ⟨by omega, by omega⟩, show inT L.length (t : Int) = true from inT_iff.2 ⟨by omega, by omega⟩, Int.toNat_natCast]
  show (decide (0 ≤ L[0]!) && decide (L[0]! = L[t]!)) = _
  by_cases e : L[t]! = L[0]!
  · rw [e]
    simp
  · have e' : ¬ L[0]! = L[t]! := fun q => e q.symm
    rw [decide_eq_false e, decide_eq_false e', Bool.and_false, Bool.and_false]
set_option maxHeartbeats 8000000 in
set_option maxRecDepth 100000 in
theorem regsame_call {pa : Nat} {g : Gd} {b : List Bool} {M : Nat → Prop} {w : World} (h : RgAt w M pa g b) (v : Value) (hs : Sl encI w v (labG g b)) (eR : TypeId × Value) (hR : w.cell? ⟨1, 0, none⟩ = some (.iface eR.1 eR.2)) :
    Calls Tryd.prog 18 #[psR pa, v] w fun e w' => e = .returned (.bool true) ∧ RowKit.Below w.heap.size w w' := by
  have hok := h.ok
  have hn := ntl_cast hok
  have hll := labG_len hok b
  have LB := Lib.hid (labels_call h)
  have HH := Lib.hid h
  have HRT : Hid (Rooted (labG g b)) := Lib.hid (labs_rooted (grG g b))
  have LC := Lib.hid (fun W' (hb : RowKit.Below w.heap.size w W') (t : Nat) => label_call (h.below hb) (t : Int) eR (Bc hb (cell_lt hR) hR))
  have SQ := Lib.hid (fun W' (hb : RowKit.Below w.heap.size w W') (t : Int) => size_quiet (h.below hb) t)
  have TQ := Lib.hid (fun W' (hb : RowKit.Below w.heap.size w W') (s t : Int) => together_quiet (h.below hb) s t)
  have CN := Lib.hid (fun W' (hb : RowKit.Below w.heap.size w W') => rgcount_call (h.below hb))
  obtain ⟨n, hnn⟩ : ∃ n, n = ntl g := ⟨_, rfl⟩
  rw [← hnn] at hn hll LC CN
  obtain ⟨-, hn2, hn3⟩ := hn
  have HS := Lib.hid hs
  generalize labG g b = L at *
  have HLL := Lib.hid hll
  obtain ⟨q, cap, rfl, v1, v2, v3⟩ := hs
  unfold maxLen at v2
  obtain ⟨gb, ob, rfl, hg1, hg2⟩ := v3 (by omega)
  have HC := Lib.hid (show ∀ k, k < n → w.cell? ⟨gb, ob + k, none⟩ = some (.int .i64 L[k]!) from fun k hk => sl_cell1 encI1' hg2 (by omega))
  rw [hll] at v1
  unfold psR at *
  clear h hok hnn v3 hg2 hR
  rw [hll]
  have HS' : Hid (Sl encI w (.slice (some ⟨gb, ob, none⟩) n cap) L) := Lib.hid (by have := HS.out; rw [hll] at this; exact this)
  have hmm := @run_makeMap Tryd.prog
  clear HS hll
  go_enter Tryd.func18, Tryd.ntmps18
  go_wp2_with fail
  refine LB.out.mono ?_
  rintro e w1 ⟨v1', rfl, ho1, hb1⟩
  have SC := Lib.hid (sameInts_call L L _ _ w1 (row_sl lenI ho1 rfl) (HS'.out.below hb1))
  rw [decide_eq_true (rfl : L = L)] at SC
  have B1 := Lib.hid hb1
  obtain ⟨p1, c1, rfl, -, -, -⟩ := row_val ho1
  clear ho1 hb1 LB
  go_wp2_with fail
  refine SC.out.mono ?_
  rintro e w2 ⟨rfl, hg2⟩
  have B2 := Lib.hid (Bt B1.out hg2.below)
  have M2 := Lib.hid ((MapG.made (k := 3) (lit := kI) (ok := okI) (dt := nD) (zr := (0 : Int)) (R := nElem) w2).congr (g := manyF L 0) (fun z => by unfold manyF; rw [if_neg]; simp [cntL]))
  have B3 := Lib.hid (Bt B2.out (Ba (Below.refl _ w2) (.map #[] 0)))
  have HWB := Lib.hid B2.out.size
  clear hg2 SC
  go_wp2_with fail
  clear hmm
  generalize w2.heap.size = bm at *
  generalize w2.alloc (.map #[] 0) = w3 at *
  go_loopw [20] (fun i wr => ∃ k : Nat, k ≤ n ∧ i = .int .i64 k ∧ Hid (RowKit.Below w.heap.size w wr) ∧ Hid (MapII wr bm (rootN L k) (manyF L k))) (fun i _ => n - (intOf i).toNat)
  case atStart => exact ⟨0, Nat.zero_le _, rfl, B3, M2⟩
  case round =>
    clear M2 B3
    obtain ⟨k, hk, rfl, HB, HM⟩ := hrel
    by_cases hkn : k < n
    · have hkz : (k : Int) < (n : Int) := by omega
      have z1 := Bc HB.out hg1 (HC.out k hkn)
      have hgw := cell_lt z1
      have hlo := HRT.out.lo k (by rw [HLL.out]; exact hkn)
      have hc1 : cntL (L.take k) L[k]! ≤ 1024 := by
        unfold cntL
        exact Nat.le_trans (List.length_filter_le _ _) (by rw [List.length_take]; omega)
      have hrk : rootN L k ≤ k := rootN_le L k
      by_cases hx : L[k]! < 0
      · have MS := Lib.hid (HM.out.congr (manyF_skip (by rw [HLL.out]; exact hkn) hx))
        have hrs := rootN_succ L k
        rw [if_neg (by omega)] at hrs
        have HRS := Lib.hid hrs
        have hz : ¬ L[k]! ≥ 0 := by omega
        have hd : decide (L[k]! ≥ 0) = false := decide_eq_false hz
        generalize L[k]! = x at *
        clear hrs hc1 hlo
        go_wp2
        go_roundw
        case measure => simp only [intOf]; omega
        case rel => exact ⟨k + 1, by omega, by go_num, HB, Lib.hid (by rw [HRS.out]; exact MS.out)⟩
      · have hx0 : 0 ≤ L[k]! := by omega
        have hlook := HM.out.look mptII L[k]! (okI_of (by omega) (by omega))
        rw [manyF_get hx0] at hlook
        unfold iV at hlook
        have HP := Lib.hid (fun z => manyF_put (L := L) (k := k) (by rw [HLL.out]; exact hkn) hx0 z)
        have HNW := Lib.hid (manyF_new HRT.out (k := k) (by rw [HLL.out]; exact hkn) hx0)
        have hz : L[k]! ≥ 0 := hx0
        have hd : decide (L[k]! ≥ 0) = true := decide_eq_true hz
        have hmb := HM.out.lt
        have hmn : rootN L k < 100000 := by omega
        have hokx : okI L[k]! := okI_of (by omega) (by omega)
        generalize cntL (L.take k) L[k]! = cn at *
        generalize L[k]! = x at *
        clear hx hlo hrk
        go_wp2_with (at_mapUpdate; refine wpl_putG mptII rfl _ _ _ rfl (by rfl) HM.out hmn x (by rfl) hokx ((cn : Int) + 1) (by rfl) ?_; intro w6 hm6 hg6; have M6 := Lib.hid ((hm6.cnt HNW.out).congr HP.out); have B6 := Lib.hid (HB.out.grown hg6 HB.out.size (fun j e => by cases e; exact HWB.out)); clear hm6 hg6)
        go_roundw
        case measure => simp only [intOf]; omega
        case rel => exact ⟨k + 1, by omega, by go_num, B6, M6⟩
    · obtain rfl : k = n := by omega
      have hkz : ¬ (k : Int) < (k : Int) := by omega
      generalize wr = w4 at *
      go_wp2_with fail
      go_loopw [33] (fun i wr => ∃ j : Nat, j ≤ k ∧ i = .int .i64 j ∧ Hid (RowKit.Below w.heap.size w wr) ∧ Hid (MapII wr bm (rootN L k) (manyF L k))) (fun i _ => k - (intOf i).toNat)
      case atStart => exact ⟨0, Nat.zero_le _, rfl, HB, HM⟩
      case round =>
        clear HB HM
        obtain ⟨j, hj, rfl, HB, HM⟩ := hrel
        by_cases hjk : j < k
        · have hjz : (j : Int) < (k : Int) := by omega
          have z1 := Bc HB.out hg1 (HC.out j hjk)
          have hgw := cell_lt z1
          have z0 := Bc HB.out hg1 (HC.out 0 (by omega))
          rw [Nat.add_zero] at z0
          have hlo := HRT.out.lo j (by rw [HLL.out]; exact hjk)
          have hsz : sizeI L (j : Int) = if 0 ≤ L[j]! then (cntL L L[j]! : Int) else 0 := by
            unfold sizeI
            rw [inT_iff.2 ⟨by omega, by rw [HLL.out]; omega⟩, Int.toNat_natCast]
            by_cases e : 0 ≤ L[j]!
            · rw [if_pos e, decide_eq_true e]; rfl
            · rw [if_neg e, decide_eq_false e]; rfl
          have htz := tog_zero (L := L) (by rw [HLL.out]; omega) (t := j) (by rw [HLL.out]; exact hjk)
          have LCj := Lib.hid (LC.out wr HB.out j)
          rw [inT_iff.2 ⟨by omega, by omega⟩, if_pos rfl, Int.toNat_natCast] at LCj
          have hmg : 0 ≤ L[j]! → (manyF L k L[j]!).getD 0 = (cntL L L[j]! : Int) := fun e => by
            rw [manyF_get e, List.take_of_length_le (by rw [HLL.out]; exact Nat.le_refl _)]
          have hokx : okI L[j]! := okI_of (by omega) (by omega)
          generalize L[j]! = x at *
          generalize L[0]! = y at *
          have hcn : cntL L x = cntL L x := rfl
          generalize cntL L x = cn at *
          clear hcn
          go_wp2_with fail
          refine LCj.out.mono ?_
          rintro e w5 ⟨rfl, hb5⟩
          have B5 := Lib.hid (Bt HB.out hb5)
          have HM5 := Lib.hid (HM.out.below hb5)
          have SZ := Lib.hid (show ∀ m : Nat, Calls Tryd.prog 21 #[.pointer (some ⟨pa, 0, none⟩), .int .i64 (j : Int)] (w5.drewN m) fun e w' => e = .returned (.int .i64 (sizeI L (j : Int))) ∧ ∃ q, w' = w5.drewN q from fun m => (SQ.out (w5.drewN m) (Bn B5.out) (j : Int)).mono fun e w' ⟨he, q, hq⟩ => ⟨he, m + q, by rw [hq]; exact drewN_two w5 m q⟩)
          have TG := Lib.hid (show ∀ m : Nat, Calls Tryd.prog 22 #[.pointer (some ⟨pa, 0, none⟩), .int .i64 0, .int .i64 (j : Int)] (w5.drewN m) fun e w' => e = .returned (.bool (togI L 0 (j : Int))) ∧ ∃ q, w' = w5.drewN q from fun m => (TQ.out (w5.drewN m) (Bn B5.out) 0 (j : Int)).mono fun e w' ⟨he, q, hq⟩ => ⟨he, m + q, by rw [hq]; exact drewN_two w5 m q⟩)
          rw [hsz] at SZ
          rw [htz] at TG
          replace z1 := Bc hb5 hgw z1
          replace z0 := Bc hb5 hgw z0
          have hgw5 := cell_lt z1
          have hk0 : (0 : Int) < (k : Int) := by omega
          have hlk := fun (m : Nat) => (HM5.out.below (Bn (Below.refl _ w5) (n := m))).look mptII x hokx
          clear hb5 hsz htz LCj HB HM hgw
          by_cases hx : x < 0
          · have d1 : decide (x ≥ 0) = false := decide_eq_false (by omega)
            have d2 : decide (x < 0) = true := decide_eq_true hx
            have d3 : decide (0 ≤ x) = false := decide_eq_false (by omega)
            rw [if_neg (by omega)] at SZ
            rw [d3, Bool.false_and] at TG
            clear hmg hlk hlo d3
            go_wp2_with fail
            go_big_quiet (first
                | (go_at_call 21; exact SZ.out _)
                | (go_at_call 22; exact TG.out _))
            have HB6 := Lib.hid (show RowKit.Below w.heap.size w (w5.drewN nq) from Bn B5.out)
            have HM6 := Lib.hid (show MapII (w5.drewN nq) bm (rootN L k) (manyF L k) from HM5.out.below (Bn (Below.refl _ _)))
            go_wp2
            go_roundw
            case measure => simp only [intOf]; omega
            case rel => exact ⟨j + 1, by omega, by go_num, HB6, HM6⟩
          · have hx0 : 0 ≤ x := by omega
            have d1 : decide (x ≥ 0) = true := decide_eq_true hx0
            have d2 : decide (x < 0) = false := decide_eq_false hx
            have d3 : decide (0 ≤ x) = true := decide_eq_true hx0
            rw [if_pos hx0] at SZ
            rw [d3, Bool.true_and] at TG
            rw [hmg hx0] at hlk
            unfold iV at hlk
            clear hmg hlo d3
            by_cases he : x = y
            · rw [decide_eq_true he] at TG
              rw [← he] at z0
              clear hx he
              go_wp2_with fail
              go_big_quiet (first
                | (go_at_call 21; exact SZ.out _)
                | (go_at_call 22; exact TG.out _))
              have HB6 := Lib.hid (show RowKit.Below w.heap.size w (w5.drewN nq) from Bn B5.out)
              have HM6 := Lib.hid (show MapII (w5.drewN nq) bm (rootN L k) (manyF L k) from HM5.out.below (Bn (Below.refl _ _)))
              go_wp2
              go_roundw
              case measure => simp only [intOf]; omega
              case rel => exact ⟨j + 1, by omega, by go_num, HB6, HM6⟩
            · rw [decide_eq_false he] at TG
              have e0 : (x == y) = false := by simpa using he
              have e1 : decide (x = y) = false := decide_eq_false he
              clear hx he
              go_wp2_with fail
              go_big_quiet (first
                | (go_at_call 21; exact SZ.out _)
                | (go_at_call 22; exact TG.out _))
              have HB6 := Lib.hid (show RowKit.Below w.heap.size w (w5.drewN nq) from Bn B5.out)
              have HM6 := Lib.hid (show MapII (w5.drewN nq) bm (rootN L k) (manyF L k) from HM5.out.below (Bn (Below.refl _ _)))
              go_wp2
              go_roundw
              case measure => simp only [intOf]; omega
              case rel => exact ⟨j + 1, by omega, by go_num, HB6, HM6⟩
        · obtain rfl : j = k := by omega
          have hjz : ¬ (j : Int) < (j : Int) := by omega
          have CC := Lib.hid (CN.out wr HB.out)
          go_wp2_with fail
          refine CC.out.mono ?_
          rintro e w5 ⟨rfl, hb5⟩
          have hlen := (HM.out.below hb5).len mptII 3
          have B5 := Lib.hid (Bt HB.out hb5)
          clear hb5
          go_wp2
          go_ret
          exact ⟨rfl, B5.out⟩
end Go.Proofs.YtklpemcchfmdjaaDoor
