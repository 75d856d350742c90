import Derived.Test.YtlnncnbahmgpfaaDoorZ25
import Derived.Test.YtlnncnbahmgpfaaDoorZ30
import Derived.Test.YtlnncnbahmgpfaaDoorZ1
import Derived.Test.YtlnncnbahmgpfaaDoorZ20

/-
  The walk of QuadAll.
-/
namespace Go.Proofs.YtlnncnbahmgpfaaDoor
set_option linter.unusedSimpArgs false
set_option linter.unusedVariables false
open Go.RowKit Go.Sort Go.Lib Go.Shelf

section
variable {eR eN eF : TypeId × Value}
theorem errV_no {b : Bx4} (h : errB b ≠ 0) : ∃ t u, errV eR eF b = .iface t u := by
  rcases err_cases eR eF b with ⟨e, _⟩ | ⟨_, e⟩ | ⟨_, e⟩
  · exact absurd e h
  · exact ⟨_, _, e⟩
  · exact ⟨_, _, e⟩
set_option maxHeartbeats 4000000 in
set_option maxRecDepth 100000 in
theorem quadAll_walk (l : List Bx4) (v : Value) (W : World) (hv : Sl encX W v l) (hE : Er3 W eR eN eF) :
    Calls Tryd.prog 7 #[v] W fun e w' => e = .returned (.bool true) ∧ RowKit.Below W.heap.size W w' := by
  obtain ⟨p0, c0, rfl, v1, v2, v3⟩ := hv
  unfold maxLen at v2
  have HV := Lib.hid v3
  have HE := Lib.hid hE
  have hel := cell_lt hE.eN
  have AL := Lib.hid (alive_any W hE)
  have NS := Lib.hid newT_call
  clear v3 hE
  by_cases h1 : l.length ≤ 40
  case neg =>
    have hz : (l.length : Int) > 40 := by omega
    go_enter Tryd.func7, Tryd.ntmps7
    go_wp2_with fail
    refine AL.out.mono ?_
    rintro e w1 ⟨rfl, hb1⟩
    go_wp2
    go_ret
    exact ⟨rfl, hb1⟩
  have hz : ¬ (l.length : Int) > 40 := by omega
  go_enter Tryd.func7, Tryd.ntmps7
  go_wp2_with fail
  refine AL.out.mono ?_
  rintro e w1 ⟨rfl, hb1⟩
  have B1 := Lib.hid hb1
  clear hb1 AL
  go_wp2_with fail
  refine (NS.out _).mono ?_
  rintro e w2 ⟨pt, rfl, hp2, hb2⟩
  have O2 := Lib.hid (OO.new (P := TrB pt []) (Z := NoZ) (base := W.heap.size) hp2 B1.out.size hb2.size (fun b e => e.elim))
  have B2 := Lib.hid (Bt B1.out hb2)
  clear hp2 hb2 NS
  go_wp2
  go_loopw [21] (fun u wr => ∃ i : Nat, u = .int .i64 i ∧ i ≤ l.length ∧ (∀ j, j < i → errB l[j]! = 0) ∧ OO (TrB pt (bl l i)) NoZ W.heap.size wr ∧ RowKit.Below W.heap.size W wr) (fun u _ => l.length - (intOf u).toNat)
  case atStart => exact ⟨0, rfl, Nat.zero_le _, fun j hj => absurd hj (Nat.not_lt_zero j), O2.out, B2.out⟩
  case round =>
    clear O2 B1 B2
    obtain ⟨i, rfl, hi, hall, hO, hb⟩ := hrel
    have HO := Lib.hid hO
    have HB := Lib.hid hb
    have HA := Lib.hid hall
    clear hO hb hall
    by_cases hlt : i < l.length
    · obtain ⟨g, o, rfl, hg1, hcs⟩ := HV.out (by omega)
      obtain ⟨c1, c2, c3, c4⟩ := atX hcs hlt
      replace c1 := Bc HB.out hg1 c1
      replace c2 := Bc HB.out hg1 c2
      replace c3 := Bc HB.out hg1 c3
      replace c4 := Bc HB.out hg1 c4
      have hx := hd_at (i : Int) (by omega) (by omega)
      have HP := Lib.hid (bl_put l i)
      have HA2 : Hid (errB l[i]! = 0 → ∀ j, j < i + 1 → errB l[j]! = 0) := fun h j hj => by
        rcases Nat.lt_or_ge j i with c | c
        · exact HA.out j c
        · obtain rfl : j = i := by omega
          exact h
      generalize l[i]! = x at *
      obtain ⟨x1, x2, x3, x4⟩ := x
      dsimp only at c1 c2 c3 c4
      have bA := Ba (Below.refl _ wr) (.cells #[.int .i64 x1, .int .i64 x2, .int .i64 x3, .int .i64 x4] 23)
      have HO2 := Lib.hid (HO.out.below (fr_tr pt _) bA)
      have HB2 := Lib.hid (Bt HB.out bA)
      clear hcs bA HO HB
      by_cases he : errB (x1, x2, x3, x4) = 0
      · have AP := Lib.hid (HO2.out.ask (asks_putT (base := W.heap.size) (i : Int) 1 x1 x2 x3 x4 hx he (by rw [bl_len]; omega) (HE.out.below HB2.out) hel))
        rw [HP.out] at AP
        have HA3 := Lib.hid (HA2.out he)
        clear he HA2 HA
        go_wp2_with fail
        refine AP.out.mono ?_
        rintro e w5 ⟨rfl, hO5, ht5⟩
        have HB5 := Lib.hid (HB2.out.trans (OO.tch ht5 HB2.out.size))
        have HO5 := Lib.hid hO5
        clear hO5 ht5 AP
        go_wp2
        go_roundw
        case measure => simp only [intOf]; omega
        case rel => exact ⟨i + 1, by go_num, by omega, HA3.out, HO5.out, HB5.out⟩
      · have PN := Lib.hid (HO2.out.read (fun M h => putT_no h (i : Int) 1 x1 x2 x3 x4 he (HE.out.below HB2.out)))
        obtain ⟨t, u, e1⟩ := errV_no (eR := eR) (eF := eF) he
        rw [e1] at PN
        clear e1 he HA2 HA
        go_wp2_with fail
        refine PN.out.mono ?_
        rintro e w5 ⟨rfl, hb5⟩
        have B5 := Bt HB2.out hb5
        go_wp2
        go_ret
        exact ⟨rfl, B5⟩
    · have hin : i = l.length := by omega
      subst hin
      clear hlt
      have hok : ∀ b ∈ bl l l.length, okR b.2 = true := fun b hb => by
        obtain ⟨j, hj, rfl⟩ := mem_bl.1 hb
        exact (errB_zero.1 (HA.out j hj)).1
      have HML := Lib.hid ((meetL_all (bl_once l l.length) hok).trans (bl_len l l.length))
      have HOK := Lib.hid hok
      have MA := Lib.hid (HO.out.read (fun M h => meetT_call h (-4194304) (-4194304) 4194304 4194304 (by decide) (by rw [bl_len]; omega)))
      have LT := Lib.hid (fun w' (hb : RowKit.Below wr.heap.size wr w') => (HO.out.below (fr_tr pt _) hb).read (fun M h => lenT_call h))
      rw [bl_len] at LT
      clear hok
      obtain ⟨wo, rfl⟩ : ∃ wo, wo = wr := ⟨_, rfl⟩
      go_wp2_with fail
      refine MA.out.mono ?_
      rintro e w5 ⟨v5, rfl, hs5, hb5⟩
      obtain ⟨p5, c5, rfl, _, _, _⟩ := hs5
      rw [HML.out]
      have B5 := Lib.hid hb5
      clear hb5 MA HML
      go_wp2_with fail
      refine (LT.out _ B5.out).mono ?_
      rintro e w6 ⟨rfl, hb6⟩
      have B6 := Lib.hid (Bt B5.out hb6)
      clear hb6 B5 LT
      go_wp2
      go_loopw [57] (fun u wr => ∃ j : Nat, u = .int .i64 j ∧ j ≤ l.length ∧ RowKit.Below wo.heap.size wo wr) (fun u _ => l.length - (intOf u).toNat)
      case atStart => exact ⟨0, rfl, Nat.zero_le _, B6.out⟩
      case round =>
        clear B6
        obtain ⟨j, rfl, hj, hb⟩ := hrel
        have HBj := Lib.hid hb
        clear hb
        by_cases hjl : j < l.length
        · obtain ⟨g, o, rfl, hg1, hcs⟩ := HV.out (by omega)
          obtain ⟨c1, c2, c3, c4⟩ := atX hcs hjl
          have hbt := Bt HB.out HBj.out
          replace c1 := Bc hbt hg1 c1
          replace c2 := Bc hbt hg1 c2
          replace c3 := Bc hbt hg1 c3
          replace c4 := Bc hbt hg1 c4
          have hmem : (((j : Int), 1), l[j]!) ∈ bl l l.length := mem_bl.2 ⟨j, hjl, rfl⟩
          have hkr := HOK.out _ hmem
          have hin : decide ((((j : Int), 1) : Hd) ∈ meetL (bl l l.length) l[j]!) = true := decide_eq_true (mem_meetL.2 ⟨_, hmem, meets_self hkr, rfl⟩)
          dsimp only at hkr
          generalize l[j]! = x at *
          obtain ⟨x1, x2, x3, x4⟩ := x
          dsimp only at c1 c2 c3 c4
          have bA := Bt HBj.out (Ba (Below.refl _ wr) (.cells #[.int .i64 x1, .int .i64 x2, .int .i64 x3, .int .i64 x4] 23))
          have MC := Lib.hid ((HO.out.below (fr_tr pt _) bA).read (fun M h => meetT_call h x1 x2 x3 x4 hkr (by rw [bl_len]; omega)))
          have HBA := Lib.hid bA
          have HIN := Lib.hid hin
          clear hcs hbt bA hmem hkr hin
          go_wp2_with fail
          refine MC.out.mono ?_
          rintro e w7 ⟨v7, rfl, hs7, hb7⟩
          have HC := Lib.hid (has_call _ v7 (j : Int) 1 w7 hs7)
          rw [HIN.out] at HC
          have B7 := Lib.hid (Bt HBA.out hb7)
          obtain ⟨p7, c7, rfl, _, _, _⟩ := hs7
          clear hb7 MC HBA HIN
          go_wp2_with fail
          refine HC.out.mono ?_
          rintro e w8 ⟨rfl, hg8⟩
          have B8 := Lib.hid (Bt B7.out hg8.below)
          clear hg8 B7 HC
          go_wp2
          go_roundw
          case measure => simp only [intOf]; omega
          case rel => exact ⟨j + 1, by go_num, by omega, B8.out⟩
        · have hjn : j = l.length := by omega
          subst hjn
          have HO3 := Lib.hid (HO.out.below (fr_tr pt _) HBj.out)
          have HB3 := Lib.hid (Bt HB.out HBj.out)
          clear HO HB HBj HOK HA
          go_wp2
          go_loopw [80] (fun u wr => ∃ i : Nat, u = .int .i64 i ∧ i ≤ l.length ∧ OO (TrB pt ((bl l l.length).drop i)) NoZ W.heap.size wr ∧ RowKit.Below W.heap.size W wr) (fun u _ => l.length - (intOf u).toNat)
          case atStart => exact ⟨0, rfl, Nat.zero_le _, HO3.out, HB3.out⟩
          case round =>
            clear HO3 HB3
            obtain ⟨i, rfl, hi, hO, hb⟩ := hrel
            have HO := Lib.hid hO
            have HB := Lib.hid hb
            clear hO hb
            by_cases hlt : i < l.length
            · have hx := hd_at (i : Int) (by omega) (by omega)
              have hmem : (((i : Int), 1), l[i]!) ∈ (bl l l.length).drop i := by rw [bl_drop hlt]; exact List.mem_cons_self ..
              have DY := Lib.hid (HO.out.ask (asks_dropT (i : Int) 1 hx hmem (by rw [List.length_drop, bl_len]; omega)))
              rw [bl_wo hlt] at DY
              clear hmem hx
              go_wp2_with fail
              refine DY.out.mono ?_
              rintro e w6 ⟨rfl, hO6, ht6⟩
              have HB6 := Lib.hid (HB.out.trans (OO.tch ht6 HB.out.size))
              have HO6 := Lib.hid hO6
              clear hO6 ht6 DY
              go_wp2
              go_roundw
              case measure => simp only [intOf]; omega
              case rel => exact ⟨i + 1, by go_num, by omega, HO6.out, HB6.out⟩
            · have hin : i = l.length := by omega
              subst hin
              have hnil : (bl l l.length).drop l.length = [] := List.drop_eq_nil_of_le (by rw [bl_len]; exact Nat.le_refl _)
              rw [hnil] at HO
              have NT := Lib.hid (HO.out.read (fun M h => nodesT_call h (by simp)))
              have LT := Lib.hid (fun w' (hb : RowKit.Below wr.heap.size wr w') => (HO.out.below (fr_tr pt _) hb).read (fun M h => lenT_call h))
              rw [nodesB_nil] at NT
              rw [List.length_nil] at LT
              clear hnil hlt HO
              go_wp2_with fail
              refine NT.out.mono ?_
              rintro e w5 ⟨v5, rfl, hs5, hb5⟩
              obtain ⟨p5, c5, rfl, _, _, _⟩ := hs5
              simp only [List.length_cons, List.length_nil, Nat.zero_add]
              have B5 := Lib.hid hb5
              clear hb5 NT
              go_wp2_with fail
              refine (LT.out _ B5.out).mono ?_
              rintro e w6 ⟨rfl, hb6⟩
              have B6 := Lib.hid (Bt HB.out (Bt B5.out hb6))
              clear hb6 B5 LT
              go_wp2
              go_ret
              exact ⟨by simp, B6.out⟩
end
end Go.Proofs.YtlnncnbahmgpfaaDoor
