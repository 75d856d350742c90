import Derived.Test.YtahichjiphjapaaGreatDoorZ56
import Derived.Test.YtahichjiphjapaaGreatDoorZ57
import Derived.Test.YtahichjiphjapaaGreatDoorZ2
import Derived.Test.YtahichjiphjapaaGreatDoorZ24
import Derived.Test.YtahichjiphjapaaGreatDoorZ13

/-
  The walk of NearAround.
-/
namespace Go.Proofs.YtahichjiphjapaaGreatDoor
set_option linter.unusedSimpArgs false
set_option linter.unusedVariables false
open Go.RowKit Go.Sort Go.Lib Go.Shelf

section
def fnL (h : Hd) (l : List Hd) : List Hd := l.filter fun z => !decide (z = h)
theorem fnL_take {l : List Hd} {k : Nat} (h : Hd) (hk : k < l.length) : fnL h (l.take (k + 1)) = fnL h (l.take k) ++ (if l[k]! = h then [] else [l[k]!]) := by
  unfold fnL
  rw [List.take_succ_eq_append_getElem hk, getElem!_pos l k hk, List.filter_append]
  congr 1
  by_cases e : l[k] = h
  · rw [if_pos e, List.filter_cons, if_neg (by simp [e])]
    rfl
  · rw [if_neg e, List.filter_cons, if_pos (by simp [e])]
    rfl
set_option maxHeartbeats 8000000 in
set_option maxRecDepth 100000 in
theorem nearAround_walk (l : List Bx4) (v : Value) (wh r : Int) (W : World) (hx : HdOk (wh, 1)) (hv : Sl encX W v l) {A : Nat → Addr} (hE : Errs W A) :
    Calls Tryz.prog 5 #[v, .int .i64 wh, .int .i64 r] W fun e w' => e = .returned (.bool true) ∧ RowKit.Below W.heap.size W w' := by
  have AL := Lib.hid (alive_any W (Er3.of hE))
  have FI := Lib.hid (fun w (hb : RowKit.Below W.heap.size W w) => filled_call l v w (hv.below hb) ((Er3.of hE).below hb))
  have HE := Lib.hid hE
  clear hE hv
  go_enter Tryz.func5, Tryz.ntmps5
  go_wp2_with fail
  refine AL.out.mono ?_
  rintro e w1 ⟨rfl, hb1⟩
  have F1 := Lib.hid (FI.out w1 hb1)
  have B1 := Lib.hid hb1
  clear hb1 AL FI
  go_wp2_with fail
  refine F1.out.mono ?_
  rintro e w2 ⟨⟨pt, vm, rfl, hR⟩, hb2⟩
  have B2 := Lib.hid (Bt B1.out hb2)
  clear hb2 F1 B1
  cases hf : fillB l
  · clear hR hf
    go_wp2
    go_ret
    exact ⟨rfl, B2.out⟩
  obtain ⟨⟨M, hT⟩, hsB⟩ := hR hf
  obtain ⟨hn, -⟩ := fillB_iff.1 hf
  have ho := fl_once l l.length (by omega)
  have hL := fl_len l l.length
  have hok := hT.okB
  generalize fl l l.length = B at *
  clear hR hf
  have hB60 : B.length ≤ 60 := by omega
  obtain ⟨pv, cv, rfl, hv1, hv2, hv3⟩ := hsB
  have HSB := Lib.hid (show Sl encBx w2 (.slice pv B.length cv) B from ⟨pv, cv, rfl, hv1, hv2, hv3⟩)
  have HV := Lib.hid hv3
  have neh := fun a b c d W => ne_of_eq (by kernel_rfl) (eqH_run a b c d W)
  have gdh := gdH_run
  have b3 := Ba (Below.refl _ w2) (.cells #[.int .i64 wh, .int .i64 1] 42)
  have HK := Lib.hid (heap_alloc_new w2 (.cells #[.int .i64 wh, .int .i64 1] 42))
  have B3 := Lib.hid b3
  have HOK := Lib.hid hok
  have HO := Lib.hid ho
  clear hv3 hn hL ho
  cases hbx : boxF B (wh, 1) with
  | none =>
    have N1 := Lib.hid (nAround_none wh 1 r ((fr_tr pt B).below hT b3) hx hbx (Er3.of (HE.out.below (Bt B2.out b3))))
    clear hT hok hx b3
    go_wp2_with fail
    refine N1.out.mono ?_
    rintro e w4 ⟨v4, rfl, hs4, hb4⟩
    have B4 := Lib.hid (Bt B3.out hb4)
    have K4 := Lib.hid (blk_below HK.out hb4)
    have S4 := Lib.hid hs4
    obtain ⟨p4, c4, rfl, _, _, _⟩ := hs4
    clear hb4 N1 HK B3
    obtain ⟨zb, hzb⟩ : ∃ zb, zb = w2.heap.size := ⟨_, rfl⟩
    rw [← hzb] at K4 ⊢
    clear hzb
    go_wp2
    go_loopw [40] (fun u wr => ∃ i : Nat, u = .int .i64 i ∧ i ≤ B.length ∧ RowKit.Below w4.heap.size w4 wr ∧ Hid (∀ t, t < i → B[t]!.1 ≠ (wh, 1))) (fun u _ => B.length - (intOf u).toNat)
    case atStart => exact ⟨0, rfl, Nat.zero_le _, Below.refl _ _, fun t ht => absurd ht (Nat.not_lt_zero t)⟩
    case round =>
      obtain ⟨i, rfl, hi, hb, HF⟩ := hrel
      have HBi := Lib.hid hb
      obtain ⟨z1, z2, _, _⟩ := two_cells (blk_below K4.out hb)
      have hzl := cell_lt z1
      clear hb
      by_cases hil : i < B.length
      · obtain ⟨g, o, rfl, hg, hc⟩ := HV.out (by omega)
        obtain ⟨a1, a2, a3, a4, a5, a6⟩ := atBx hc hil
        have bB := Bt B4.out HBi.out
        replace a1 := Bc bB hg a1
        replace a2 := Bc bB hg a2
        replace a3 := Bc bB hg a3
        replace a4 := Bc bB hg a4
        replace a5 := Bc bB hg a5
        replace a6 := Bc bB hg a6
        have hgl := Bl bB hg
        have hmem : B[i]! ∈ B := by rw [getElem!_pos B i hil]; exact List.getElem_mem hil
        have HF2 := Lib.hid (show B[i]!.1 ≠ (wh, 1) → ∀ t, t < i + 1 → B[t]!.1 ≠ (wh, 1) from fun h t ht => by
          rcases Nat.lt_or_ge t i with c | c
          · exact HF.out t c
          · obtain rfl : t = i := by omega
            exact h)
        generalize B[i]! = z at *
        obtain ⟨⟨x1, x2⟩, x3, x4, x5, x6⟩ := z
        dsimp only at a1 a2 a3 a4 a5 a6
        have bA := Ba (Below.refl _ wr) (.cells #[.int .i64 x1, .int .i64 x2, .int .i64 x3, .int .i64 x4, .int .i64 x5, .int .i64 x6] 47)
        have HX := Lib.hid (heap_alloc_new wr (.cells #[.int .i64 x1, .int .i64 x2, .int .i64 x3, .int .i64 x4, .int .i64 x5, .int .i64 x6] 47))
        have e0 := neh x1 x2 wh 1
        clear hc bB
        have hne : ¬ ((x1, x2) : Hd) = (wh, 1) := fun e => boxF_none.1 hbx _ hmem e
        simp only [decide_eq_false hne, Bool.not_false] at e0
        have F2 := Lib.hid (HF2.out hne)
        have B6 := Lib.hid (Bt HBi.out bA)
        clear hne neh HF2 hmem bA
        go_wp2
        go_roundw
        case measure => simp only [intOf]; omega
        case rel => exact ⟨i + 1, by go_num, by omega, B6.out, F2⟩
      · have hin : i = B.length := by omega
        subst hin
        have B5 := Lib.hid (Bt (Bt B2.out B4.out) HBi.out)
        have NR := Lib.hid (num_none (HE.out.below B5.out))
        clear hil neh
        go_wp2_with fail
        refine NR.out.mono ?_
        rintro e w6 ⟨rfl, hb6⟩
        have B6 := Lib.hid (Bt B5.out hb6)
        clear hb6 NR
        go_wp2
        go_ret
        exact ⟨by simp, B6.out⟩
  | some x =>
    cases hall : placeB (ctrB x) && okRad r
    · have N1 := Lib.hid (nAround_no wh 1 r ((fr_tr pt B).below hT b3) hx hbx hall (Er3.of (HE.out.below (Bt B2.out b3))))
      clear hT hok hx b3
      go_wp2_with fail
      refine N1.out.mono ?_
      rintro e w4 ⟨v4, rfl, hs4, hb4⟩
      have B4 := Lib.hid (Bt B3.out hb4)
      have K4 := Lib.hid (blk_below HK.out hb4)
      have S4 := Lib.hid hs4
      obtain ⟨p4, c4, rfl, _, _, _⟩ := hs4
      clear hb4 N1 HK B3
      obtain ⟨zb, hzb⟩ : ∃ zb, zb = w2.heap.size := ⟨_, rfl⟩
      rw [← hzb] at K4 ⊢
      clear hzb
      go_wp2
      go_loopw [40] (fun u wr => ∃ i : Nat, u = .int .i64 i ∧ i ≤ B.length ∧ RowKit.Below w4.heap.size w4 wr ∧ Hid (∀ t, t < i → B[t]!.1 ≠ (wh, 1))) (fun u _ => B.length - (intOf u).toNat)
      case atStart => exact ⟨0, rfl, Nat.zero_le _, Below.refl _ _, fun t ht => absurd ht (Nat.not_lt_zero t)⟩
      case round =>
        obtain ⟨i, rfl, hi, hb, HF⟩ := hrel
        have HBi := Lib.hid hb
        obtain ⟨z1, z2, _, _⟩ := two_cells (blk_below K4.out hb)
        have hzl := cell_lt z1
        clear hb
        by_cases hil : i < B.length
        · obtain ⟨g, o, rfl, hg, hc⟩ := HV.out (by omega)
          obtain ⟨a1, a2, a3, a4, a5, a6⟩ := atBx hc hil
          have bB := Bt B4.out HBi.out
          replace a1 := Bc bB hg a1
          replace a2 := Bc bB hg a2
          replace a3 := Bc bB hg a3
          replace a4 := Bc bB hg a4
          replace a5 := Bc bB hg a5
          replace a6 := Bc bB hg a6
          have hgl := Bl bB hg
          have hmem : B[i]! ∈ B := by rw [getElem!_pos B i hil]; exact List.getElem_mem hil
          have HF2 := Lib.hid (show B[i]!.1 ≠ (wh, 1) → ∀ t, t < i + 1 → B[t]!.1 ≠ (wh, 1) from fun h t ht => by
            rcases Nat.lt_or_ge t i with c | c
            · exact HF.out t c
            · obtain rfl : t = i := by omega
              exact h)
          generalize B[i]! = z at *
          obtain ⟨⟨x1, x2⟩, x3, x4, x5, x6⟩ := z
          dsimp only at a1 a2 a3 a4 a5 a6
          have bA := Ba (Below.refl _ wr) (.cells #[.int .i64 x1, .int .i64 x2, .int .i64 x3, .int .i64 x4, .int .i64 x5, .int .i64 x6] 47)
          have HX := Lib.hid (heap_alloc_new wr (.cells #[.int .i64 x1, .int .i64 x2, .int .i64 x3, .int .i64 x4, .int .i64 x5, .int .i64 x6] 47))
          have e0 := neh x1 x2 wh 1
          clear hc bB
          by_cases hne : ((x1, x2) : Hd) = (wh, 1)
          · skip
            obtain ⟨rfl, rfl⟩ : x1 = wh ∧ x2 = 1 := by simpa using hne
            simp only [decide_true, Bool.not_true] at e0
            have hbo : boxF B (x1, 1) = some (x3, x4, x5, x6) := boxF_mem HO.out hmem
            obtain rfl : x = (x3, x4, x5, x6) := Option.some.inj (hbx.symm.trans hbo)
            obtain ⟨⟨n1, n2, n3, n4⟩, n5, n6⟩ := ok_near (HOK.out _ hmem).1
            dsimp only at n1 n2 n3 n4
            have CC := Lib.hid (fun W => rcentre_call x3 x4 x5 x6 W n1 n2 n3 n4)
            rw [show halfI (x3 + x5) = (ctrB (x3, x4, x5, x6)).1 from rfl, show halfI (x4 + x6) = (ctrB (x3, x4, x5, x6)).2 from rfl] at CC
            have PL := Lib.hid (fun w => rplace_call (ctrB (x3, x4, x5, x6)).1 (ctrB (x3, x4, x5, x6)).2 w)
            generalize ctrB (x3, x4, x5, x6) = q at *
            obtain ⟨q1, q2⟩ := q
            dsimp only at CC PL
            have hP : placeB (q1, q2) = false ∨ placeB (q1, q2) = true ∧ (r < 0 ∨ ¬ r < 0 ∧ r > 4194304) := by
              cases hp : placeB (q1, q2)
              · exact .inl rfl
              · refine .inr ⟨rfl, ?_⟩
                rw [hp, Bool.true_and] at hall
                simp [okRad] at hall
                omega
            clear hall
            rcases hP with hP | ⟨hP, h1 | ⟨h1, h2⟩⟩
            · rw [hP] at PL
              clear hP
              have BX := Lib.hid (Bt (Bt B2.out B4.out) HBi.out)
              clear bA hmem HF2 neh hne hbo
              go_wp2_with fail
              refine (CC.out _).mono ?_
              rintro e w6 ⟨rfl, hb6⟩
              have b6 := Bt (Ba (Below.refl _ wr) (.cells #[.int .i64 x1, .int .i64 1, .int .i64 x3, .int .i64 x4, .int .i64 x5, .int .i64 x6] 47)) hb6
              have B6 := Lib.hid (Bt BX.out b6)
              clear hb6 CC b6
              go_wp2_with fail
              refine (PL.out _).mono ?_
              rintro e w7 ⟨rfl, hb7⟩
              have B7 := Lib.hid (Bt B6.out (Bt (Ba (Below.refl _ w6) (.cells #[.int .i64 q1, .int .i64 q2] 24)) hb7))
              have NR := Lib.hid (num_range (HE.out.below B7.out))
              clear hb7 PL
              go_wp2_with fail
              refine NR.out.mono ?_
              rintro e w8 ⟨rfl, hb8⟩
              have B8 := Lib.hid (Bt B7.out hb8)
              clear hb8 NR
              go_wp2
              go_ret
              exact ⟨by simp, B8.out⟩
            · rw [hP] at PL
              clear hP
              have BX := Lib.hid (Bt (Bt B2.out B4.out) HBi.out)
              clear bA hmem HF2 neh hne hbo
              go_wp2_with fail
              refine (CC.out _).mono ?_
              rintro e w6 ⟨rfl, hb6⟩
              have b6 := Bt (Ba (Below.refl _ wr) (.cells #[.int .i64 x1, .int .i64 1, .int .i64 x3, .int .i64 x4, .int .i64 x5, .int .i64 x6] 47)) hb6
              have B6 := Lib.hid (Bt BX.out b6)
              clear hb6 CC b6
              go_wp2_with fail
              refine (PL.out _).mono ?_
              rintro e w7 ⟨rfl, hb7⟩
              have B7 := Lib.hid (Bt B6.out (Bt (Ba (Below.refl _ w6) (.cells #[.int .i64 q1, .int .i64 q2] 24)) hb7))
              have NR := Lib.hid (num_range (HE.out.below B7.out))
              clear hb7 PL
              go_wp2_with fail
              refine NR.out.mono ?_
              rintro e w8 ⟨rfl, hb8⟩
              have B8 := Lib.hid (Bt B7.out hb8)
              clear hb8 NR
              go_wp2
              go_ret
              exact ⟨by simp, B8.out⟩
            · rw [hP] at PL
              clear hP
              have BX := Lib.hid (Bt (Bt B2.out B4.out) HBi.out)
              clear bA hmem HF2 neh hne hbo
              go_wp2_with fail
              refine (CC.out _).mono ?_
              rintro e w6 ⟨rfl, hb6⟩
              have b6 := Bt (Ba (Below.refl _ wr) (.cells #[.int .i64 x1, .int .i64 1, .int .i64 x3, .int .i64 x4, .int .i64 x5, .int .i64 x6] 47)) hb6
              have B6 := Lib.hid (Bt BX.out b6)
              clear hb6 CC b6
              go_wp2_with fail
              refine (PL.out _).mono ?_
              rintro e w7 ⟨rfl, hb7⟩
              have B7 := Lib.hid (Bt B6.out (Bt (Ba (Below.refl _ w6) (.cells #[.int .i64 q1, .int .i64 q2] 24)) hb7))
              have NR := Lib.hid (num_range (HE.out.below B7.out))
              clear hb7 PL
              go_wp2_with fail
              refine NR.out.mono ?_
              rintro e w8 ⟨rfl, hb8⟩
              have B8 := Lib.hid (Bt B7.out hb8)
              clear hb8 NR
              go_wp2
              go_ret
              exact ⟨by simp, B8.out⟩
          · skip
            simp only [decide_eq_false hne, Bool.not_false] at e0
            have F2 := Lib.hid (HF2.out hne)
            have B6 := Lib.hid (Bt HBi.out bA)
            clear hne neh HF2 hmem bA
            go_wp2
            go_roundw
            case measure => simp only [intOf]; omega
            case rel => exact ⟨i + 1, by go_num, by omega, B6.out, F2⟩
        · exfalso
          obtain ⟨t, ht, e⟩ := List.getElem_of_mem (boxF_some hbx)
          refine HF.out t (by omega) ?_
          rw [getElem!_pos B t ht, e]
    · obtain ⟨hP, hr⟩ := Bool.and_eq_true_iff.1 hall
      simp only [okRad, Bool.and_eq_true, decide_eq_true_eq] at hr
      have N1 := Lib.hid (nAround_do wh 1 r ((fr_tr pt B).below hT b3) hx hbx hall (by omega))
      rw [show (radL B (ctrB x) r).filter (fun h => !decide (h = (wh, 1))) = fnL (wh, 1) (radL B (ctrB x) r) from rfl] at N1
      have RR := Lib.hid (fun w (hb : RowKit.Below w2.heap.size w2 w) => rRadius_call B (.slice pv B.length cv) (ctrB x).1 (ctrB x).2 r w (HSB.out.below hb) (by omega) HOK.out hP hr.1 hr.2)
      have hN60 : (radL B (ctrB x) r).length ≤ 60 := Nat.le_trans (radL_len _ _ _) hB60
      rw [show ((ctrB x).1, (ctrB x).2) = ctrB x from rfl] at RR
      have hP : placeB ((ctrB x).1, (ctrB x).2) = true := hP
      obtain ⟨hr1, hr2⟩ := hr
      have h1 : ¬ r < 0 := by omega
      have h2 : ¬ r > 4194304 := by omega
      generalize radL B (ctrB x) r = N at *
      clear hT hok hx b3 hall hr1 hr2
      go_wp2_with fail
      refine N1.out.mono ?_
      rintro e w4 ⟨v4, rfl, hs4, hb4⟩
      have B4 := Lib.hid (Bt B3.out hb4)
      have K4 := Lib.hid (blk_below HK.out hb4)
      have S4 := Lib.hid hs4
      obtain ⟨p4, c4, rfl, _, _, _⟩ := hs4
      clear hb4 N1 HK B3
      obtain ⟨zb, hzb⟩ : ∃ zb, zb = w2.heap.size := ⟨_, rfl⟩
      rw [← hzb] at K4 ⊢
      clear hzb
      go_wp2
      go_loopw [40] (fun u wr => ∃ i : Nat, u = .int .i64 i ∧ i ≤ B.length ∧ RowKit.Below w4.heap.size w4 wr ∧ Hid (∀ t, t < i → B[t]!.1 ≠ (wh, 1))) (fun u _ => B.length - (intOf u).toNat)
      case atStart => exact ⟨0, rfl, Nat.zero_le _, Below.refl _ _, fun t ht => absurd ht (Nat.not_lt_zero t)⟩
      case round =>
        obtain ⟨i, rfl, hi, hb, HF⟩ := hrel
        have HBi := Lib.hid hb
        obtain ⟨z1, z2, _, _⟩ := two_cells (blk_below K4.out hb)
        have hzl := cell_lt z1
        clear hb
        by_cases hil : i < B.length
        · obtain ⟨g, o, rfl, hg, hc⟩ := HV.out (by omega)
          obtain ⟨a1, a2, a3, a4, a5, a6⟩ := atBx hc hil
          have bB := Bt B4.out HBi.out
          replace a1 := Bc bB hg a1
          replace a2 := Bc bB hg a2
          replace a3 := Bc bB hg a3
          replace a4 := Bc bB hg a4
          replace a5 := Bc bB hg a5
          replace a6 := Bc bB hg a6
          have hgl := Bl bB hg
          have hmem : B[i]! ∈ B := by rw [getElem!_pos B i hil]; exact List.getElem_mem hil
          have HF2 := Lib.hid (show B[i]!.1 ≠ (wh, 1) → ∀ t, t < i + 1 → B[t]!.1 ≠ (wh, 1) from fun h t ht => by
            rcases Nat.lt_or_ge t i with c | c
            · exact HF.out t c
            · obtain rfl : t = i := by omega
              exact h)
          generalize B[i]! = z at *
          obtain ⟨⟨x1, x2⟩, x3, x4, x5, x6⟩ := z
          dsimp only at a1 a2 a3 a4 a5 a6
          have bA := Ba (Below.refl _ wr) (.cells #[.int .i64 x1, .int .i64 x2, .int .i64 x3, .int .i64 x4, .int .i64 x5, .int .i64 x6] 47)
          have HX := Lib.hid (heap_alloc_new wr (.cells #[.int .i64 x1, .int .i64 x2, .int .i64 x3, .int .i64 x4, .int .i64 x5, .int .i64 x6] 47))
          have e0 := neh x1 x2 wh 1
          clear hc bB
          by_cases hne : ((x1, x2) : Hd) = (wh, 1)
          · skip
            obtain ⟨rfl, rfl⟩ : x1 = wh ∧ x2 = 1 := by simpa using hne
            simp only [decide_true, Bool.not_true] at e0
            have hbo : boxF B (x1, 1) = some (x3, x4, x5, x6) := boxF_mem HO.out hmem
            obtain rfl : x = (x3, x4, x5, x6) := Option.some.inj (hbx.symm.trans hbo)
            obtain ⟨⟨n1, n2, n3, n4⟩, n5, n6⟩ := ok_near (HOK.out _ hmem).1
            dsimp only at n1 n2 n3 n4
            have CC := Lib.hid (fun W => rcentre_call x3 x4 x5 x6 W n1 n2 n3 n4)
            rw [show halfI (x3 + x5) = (ctrB (x3, x4, x5, x6)).1 from rfl, show halfI (x4 + x6) = (ctrB (x3, x4, x5, x6)).2 from rfl] at CC
            have PL := Lib.hid (fun w => rplace_call (ctrB (x3, x4, x5, x6)).1 (ctrB (x3, x4, x5, x6)).2 w)
            generalize ctrB (x3, x4, x5, x6) = q at *
            obtain ⟨q1, q2⟩ := q
            dsimp only at CC PL RR
            rw [hP] at PL
            clear hP
            have BX := Lib.hid (Bt (Bt B2.out B4.out) HBi.out)
            have BY := Lib.hid (Bt B4.out HBi.out)
            have hz4 : zb < wr.heap.size := hzl
            clear bA hmem HF2 hne hbo
            go_wp2_with fail
            refine (CC.out _).mono ?_
            rintro e w6 ⟨rfl, hb6⟩
            have b6 := Bt (Ba (Below.refl _ wr) (.cells #[.int .i64 x1, .int .i64 1, .int .i64 x3, .int .i64 x4, .int .i64 x5, .int .i64 x6] 47)) hb6
            have b7 := Ba (Below.refl _ w6) (.cells #[.int .i64 q1, .int .i64 q2] 24)
            have KQ := Lib.hid (heap_alloc_new w6 (.cells #[.int .i64 q1, .int .i64 q2] 24))
            have BW := Lib.hid (Bt b6 b7)
            clear hb6 CC b6 b7
            obtain ⟨qb, hqb⟩ : ∃ qb, qb = w6.heap.size := ⟨_, rfl⟩
            go_wp2_with fail
            rw [← hqb]
            rw [← hqb] at KQ
            clear hqb
            refine (PL.out _).mono ?_
            rintro e w7 ⟨rfl, hb7⟩
            have B7 := Lib.hid (Bt BW.out hb7)
            have hz7 : zb < w7.heap.size := Nat.lt_of_lt_of_le hz4 B7.out.size
            have b8 := Ba (Below.refl _ w7) (.cells #[] 42)
            have KQ7 := Lib.hid (blk_below (blk_below KQ.out hb7) b8)
            clear hb7 PL KQ BW
            obtain ⟨t1, t2, _, _⟩ := two_cells KQ7.out
            have htl := cell_lt t1
            have RO := Lib.hid (World.ownsRow_made (e := 42) (size := 2) w7 #[] 0 (base := w7.heap.size) (Nat.le_refl _) (Nat.zero_le _) (by simp))
            have R7 := Lib.hid (RR.out (w7.alloc (.cells #[] 42)) (Bt BY.out (Bt B7.out b8)))
            have B8a := Lib.hid b8
            clear RR b8
            go_wp2_with fail
            refine R7.out.mono ?_
            rintro e w8 ⟨v8, rfl, ho8, hb8⟩
            have RO8 := Lib.hid (row_below RO.out hb8)
            have B8 := Lib.hid (Bt B8a.out hb8)
            have hsz8 : w7.heap.size + 1 ≤ w8.heap.size := by have := hb8.size; simpa using this
            obtain ⟨p8, c8, rfl, q81, q82, q83⟩ := own_of_row lenH ho8 rfl
            have Q8 := Lib.hid (show 0 < N.length → ∃ g, p8 = some ⟨g, 0, none⟩ ∧ w7.heap.size + 1 ≤ g ∧ g < w8.heap.size ∧ ∀ j u, (flat encH N)[j]? = some u → w8.cell? ⟨g, 0 + j, none⟩ = some u from fun h => by
              obtain ⟨g, e, h1, h2, h3⟩ := q83 h
              refine ⟨g, e, by simpa using h1, h2, fun j u hu => (flat_of_holds lenH h3 j u hu).1⟩)
            have KH8 := Lib.hid (blk_below (blk_below K4.out (Bt HBi.out B7.out)) B8.out)
            have B48 := Lib.hid (Bt HBi.out (Bt B7.out B8.out))
            have hs48 : w4.heap.size ≤ w7.heap.size := Nat.le_trans HBi.out.size B7.out.size
            clear hb8 ho8 R7 q83 z1 z2 hzl t1 t2 htl RO e0
            go_wp2
            obtain ⟨wo, rfl⟩ : ∃ wo, wo = wr := ⟨_, rfl⟩
            go_loopw [16, 76] (fun vw u wr => ∃ j : Nat, u = .int .i64 j ∧ j ≤ N.length ∧ Tch (fun b => b = w7.heap.size ∨ w8.heap.size ≤ b) w8 wr ∧ (∀ g, vw.ownBlock = some g → g = w7.heap.size ∨ w8.heap.size ≤ g) ∧ wr.ownsRow w7.heap.size 42 2 vw (fnL (x1, 1) (N.take j)).length (flat encH (fnL (x1, 1) (N.take j)))) (fun _ u _ => N.length - (intOf u).toNat)
            case atStart =>
              refine ⟨0, rfl, Nat.zero_le _, Tch.refl _ _, fun g hg => ?_, RO8.out⟩
              simp only [Value.ownBlock, Option.some.injEq] at hg
              exact .inl hg.symm
            case round =>
              clear RO8 B8a BX BY
              obtain ⟨j, rfl, hj, ht, hown, hro⟩ := hrel
              have HT := Lib.hid ht
              have HR := Lib.hid hro
              have HOW := Lib.hid hown
              obtain ⟨zz1, zz2, _, _⟩ := two_cells (ht.blk KH8.out (fun e => by omega))
              have zzl := cell_lt zz1
              have hs8r := ht.size
              clear ht hro hown
              by_cases hjn : j < N.length
              · obtain ⟨g8, rfl, hg8a, hg8b, hc8⟩ := Q8.out (by omega)
                obtain ⟨a1, a2⟩ := atH hc8 hjn
                replace a1 := HT.out.cell hg8b (fun e => by omega) a1
                replace a2 := HT.out.cell hg8b (fun e => by omega) a2
                have hgl8 : g8 < wr.heap.size := HT.out.lt hg8b
                have HFN := Lib.hid (fnL_take (x1, 1) hjn)
                have hlt : (fnL (x1, 1) (N.take j)).length ≤ 100 := by
                  have h1 := List.length_filter_le (fun z => !decide (z = ((x1, 1) : Hd))) (N.take j)
                  have h2 : (N.take j).length ≤ N.length := List.length_take_le' _ _
                  have h3 : (fnL (x1, 1) (N.take j)).length = ((N.take j).filter (fun z => !decide (z = ((x1, 1) : Hd)))).length := rfl
                  omega
                generalize N[j]! = h at *
                obtain ⟨h1, h2⟩ := h
                dsimp only at a1 a2
                have e1 := neh h1 h2 x1 1
                have bA := Ba (Below.refl _ wr) (.cells #[.int .i64 h1, .int .i64 h2] 42)
                simp only [Nat.zero_add] at a1 a2
                clear hc8
                by_cases hm : ((h1, h2) : Hd) = (x1, 1)
                · rw [if_pos hm, List.append_nil] at HFN
                  simp only [decide_eq_true hm, Bool.not_true] at e1
                  have R2 := Lib.hid (row_below HR.out bA)
                  rw [← HFN.out] at R2
                  have T2 := Lib.hid (HT.out.bel bA)
                  clear hm neh bA
                  go_wp2
                  go_roundw
                  case measure => simp only [intOf]; omega
                  case rel => exact ⟨j + 1, by go_num, by omega, T2.out, HOW.out, R2.out⟩
                · rw [if_neg hm] at HFN
                  simp only [decide_eq_false hm, Bool.not_false] at e1
                  have bA2 := Bt bA (Ba (Below.refl _ _) (.cells #[.int .i64 h1, .int .i64 h2] 42))
                  have R2 := Lib.hid (row_below HR.out bA2)
                  have T2 := Lib.hid (HT.out.bel bA2)
                  have L2 := Lib.hid (sl_lit (enc := encH) (w := wr.alloc (.cells #[.int .i64 h1, .int .i64 h2] 42)) (cs := #[.int .i64 h1, .int .i64 h2]) (t := 42) (b := wr.heap.size + 1) [(h1, h2)] (by simp) rfl (by unfold maxLen; simp))
                  have hbs : w7.heap.size ≤ ((wr.alloc (.cells #[.int .i64 h1, .int .i64 h2] 42)).alloc (.cells #[.int .i64 h1, .int .i64 h2] 42)).heap.size := by have := bA2.size; omega
                  have HBS := Lib.hid bA2.size
                  clear hm neh bA bA2
                  go_wp2_with (at_builtin; refine wpl_app2 apH rfl _ _ rfl w7.heap.size (by rfl) (by rfl) R2.out rfl L2.out (by simp; omega) hbs ?_; intro v9 w9 hown9 hgrow9 hat9 hnil9; have O9 := Lib.hid hown9; have T9 := Lib.hid (T2.out.more (Tch.grown hgrow9 (fun b e => HOW.out b e))); have W9 := Lib.hid hat9; clear hown9 hgrow9 hat9 hnil9)
                  go_roundw
                  case measure => simp only [intOf]; omega
                  case rel =>
                    refine ⟨j + 1, by go_num, by omega, T9.out, fun g hg => ?_, by rw [HFN.out]; exact O9.out⟩
                    rcases W9.out with h | h
                    · exact HOW.out g (h ▸ hg)
                    · rw [h] at hg
                      simp only [Option.some.injEq] at hg
                      exact .inr (by have := HBS.out; omega)
              · have hin : j = N.length := by omega
                subst hin
                have BT := Lib.hid (show RowKit.Below w4.heap.size w4 wr from B48.out.trans (Tch.below HT.out (fun b e => by omega) B48.out.size))
                have HR2 := Lib.hid HR.out
                rw [List.take_length] at HR2
                have SM := Lib.hid (same_call (fnL (x1, 1) N) (fnL (x1, 1) N) _ _ wr (S4.out.below BT.out) (row_sl lenH HR2.out rfl))
                rw [decide_eq_true rfl] at SM
                clear HR HT HOW neh hjn
                go_wp2_with fail
                refine SM.out.mono ?_
                rintro e w10 ⟨rfl, hg10⟩
                have B10 := Lib.hid (Bt (Bt (Bt B2.out B4.out) BT.out) hg10.below)
                clear hg10 SM
                go_wp2
                go_ret
                exact ⟨by simp, B10.out⟩
          · skip
            simp only [decide_eq_false hne, Bool.not_false] at e0
            have F2 := Lib.hid (HF2.out hne)
            have B6 := Lib.hid (Bt HBi.out bA)
            clear hne neh HF2 hmem bA
            go_wp2
            go_roundw
            case measure => simp only [intOf]; omega
            case rel => exact ⟨i + 1, by go_num, by omega, B6.out, F2⟩
        · exfalso
          obtain ⟨t, ht, e⟩ := List.getElem_of_mem (boxF_some hbx)
          refine HF.out t (by omega) ?_
          rw [getElem!_pos B t ht, e]end
end Go.Proofs.YtahichjiphjapaaGreatDoor

/-
  Whatever boxes, number and radius it is given, NearAround answers true and leaves its arguments as they were. Conditions: the errors' variables that it names read as the program's text lays them (the card ties them to that text).
-/
namespace Go.Proofs.YtahichjiphjapaaGreatDoor
set_option linter.unusedSimpArgs false
set_option linter.unusedVariables false
open Go.ChangeShapes Go.WideShapes Go.ChangeAt Go.RowKit Go.Joins

set_option maxRecDepth 100000 in
theorem nearAround_lifted (os : Os) (started : os.Started) (H : Type) (enc : TypeId × Value → H) :
    ReturnsInHanded {} Tryz.checked os 5 .any (fun w args => (Rows.nearAroundSpec.pre enc Tryz.prog Tryz.f5 [] false w args ∧ laidMetH Tryz.prog Rows.nearAroundRow.laid w) ∧ sizedMet enc Tryz.prog Tryz.f5 (OpenSpec.ofChange Rows.nearAroundSpec) false w args)
      (Rows.nearAroundSpec.post enc Tryz.prog Tryz.f5 false true false false) := by
  refine returnsInHanded_of_change_and (C := Tryz.checked) (X := fun w _ => laidMetH Tryz.prog Rows.nearAroundRow.laid w) (fun _ _ _ hh h => h.of_heap hh) own started (by kernel_rfl) Tryz.func5
    (ChangeSpec.witness_shaped (enc := enc) (C := Tryz.checked) (os := os) (X := fun w _ => laidMetH Tryz.prog Rows.nearAroundRow.laid w) false (World.doorLaid Tryz.prog 199 os) #[.slice none 0 0, .int .i64 0, .int .i64 0] 8 rfl (World.shaped_of_RefB (by kernel_rfl) (by kernel_rfl)) (by kernel_rfl) (by kernel_rfl) (by kernel_rfl) (laidMetH_of_parts3 (fuel := 8) (laidMet_of_run' 8 (by kernel_rfl) (by kernel_rfl)) (by kernel_rfl) (by kernel_rfl))) ?_
  intro W base args ds gs before hval0 hW _ _ hL _
  have hval : ∀ (j : Nat) t v, Tryz.f5.params[j]? = some t → args[j]? = some v → Value.okWide Tryz.prog W .any base t v := hval0
  have hW' := hW
  obtain ⟨p, q, hA0, hV, rfl, hfz, hnd⟩ := hW
  have hA : DataW.TrodAll enc Tryz.prog W 0 (fun _ => true) true Tryz.f5.params.toList args.toList ds p := hA0
  rw [Tryz.params5] at hA hval
  obtain ⟨v0, vs0, d0, ds0, p0, q0, hargs, rfl, rfl, h0, r0⟩ := trodAll_cons hA
  obtain ⟨v1, vs1, d1, ds1, p1, q1, rfl, rfl, rfl, h1, r1⟩ := trodAll_cons r0
  obtain ⟨v2, vs2, d2, ds2, p2, q2, rfl, rfl, rfl, h2, r2⟩ := trodAll_cons r1
  obtain ⟨rfl, rfl, rfl⟩ := trodAll_nil r2
  obtain rfl : args = #[v0, v1, v2] := by cases args; simp_all
  obtain ⟨l0, hl0⟩ := open_boxes (hval 0 22 v0 rfl rfl) h0
  obtain ⟨x1, rfl, rfl, rfl, w1⟩ := open_int Tryz.underlying3 (hval 1 3 v1 rfl rfl) h1
  obtain ⟨x2, rfl, rfl, rfl, w2⟩ := open_int Tryz.underlying3 (hval 2 3 v2 rfl rfl) h2
  clear hA0 hval0
  have hL' : laidMet Tryz.prog Rows.nearAroundRow.laid W := by
    have h := hL
    rw [MakeChecks.laidMetH_plain _ _ _ (by kernel_rfl)] at h
    exact h
  have hsh := shape_of (L := Rows.nearAroundRow.laid) (by kernel_rfl) (by
    intro x hx
    simp only [Rows.nearAroundRow] at hx
    repeat (rcases List.mem_cons.1 hx with rfl | hx; · exact ⟨_, rfl⟩)
    exact absurd hx (by simp))
  obtain ⟨A, hE⟩ := errs_of hL' hsh (by simp [Rows.nearAroundRow]) (by simp only [Rows.nearAroundRow, errN]; decide)
  refine (nearAround_walk l0 v0 x1 x2 W ⟨w1, (by decide : (Lit.int .i64 1).wf = true)⟩ hl0 hE).mono fun e W' ⟨he, hb⟩ => ?_
  subst he
  exact ⟨_, rfl, law_post laidOut (by kernel_rfl) rfl (by kernel_rfl) Tryz.underlying4 (fun ds hd => by match ds, hd with | [_, _, _], _ => rfl) hW' hb⟩

theorem nearAround_row : Rows.NearAroundSaid :=
  OpenClaim.holds_of_wide 5 Tryz.f5 rfl rfl rfl rfl rfl rfl rfl ⟨rfl, rfl, rfl, rfl, rfl⟩ rfl rfl rfl rfl rfl (by kernel_rfl) Tryz.func5 (by kernel_rfl)
    (of_decide_eq_true (by kernel_rfl)) (by unfold Func.isWrapper; first | (rw [if_pos (by decide +kernel)]; kernel_rfl) | (rw [if_neg (by decide +kernel)]; exact ⟨rfl, rfl⟩))
    (fun os started H enc _ => nearAround_lifted os started H enc)

theorem nearAround_holds : Rows.NearAroundCardSaid :=
  Claim7.holds_tied_plain_at .later [] Rows.nearAroundCard.laidKinds true Rows.nearAroundCard.stood.harness true
    nearAround_row (fun _ h => by cases h) (by kernel_rfl) (fun _ h => by cases h) nearAround_row_tie rfl ⟨rfl, rfl⟩ (by kernel_rfl) rfl
    (fun f fn hf hfn => by
      obtain rfl : f = 5 := Option.some.inj ((show Tryz.prog.funcNamed "paddock/paddocklaw13.NearAround" = some 5 by kernel_rfl).symm.trans hf) |>.symm
      obtain rfl : fn = Tryz.f5 := (Option.some.inj (Tryz.func5.symm.trans hfn)).symm
      exact ⟨by kernel_rfl, fun j t ht => by
        rw [Tryz.params5] at ht
        have hm : t ∈ [22, 3] := by
          have := Array.mem_of_getElem? ht
          simp at this ⊢
          first | omega | (rcases this with h | h | h <;> simp [h])
        have hall : ([22, 3].all fun u => !Tryz.prog.wantsStandIn u) = true := by kernel_rfl
        exact (show Tryz.prog.wantsStandIn t = false by simpa using List.all_eq_true.1 hall t hm)⟩)
    (by kernel_rfl)
#print axioms nearAround_holds
end Go.Proofs.YtahichjiphjapaaGreatDoor
