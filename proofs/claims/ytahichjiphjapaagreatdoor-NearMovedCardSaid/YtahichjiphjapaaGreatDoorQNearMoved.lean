import Derived.Test.YtahichjiphjapaaGreatDoorZ56
import Derived.Test.YtahichjiphjapaaGreatDoorZ1
import Derived.Test.YtahichjiphjapaaGreatDoorZ2
import Derived.Test.YtahichjiphjapaaGreatDoorZ24
import Derived.Test.YtahichjiphjapaaGreatDoorZ13

/-
  The walk of NearMoved.
-/
namespace Go.Proofs.YtahichjiphjapaaGreatDoor
set_option linter.unusedSimpArgs false
set_option linter.unusedVariables false
open Go.RowKit Go.Sort Go.Lib Go.Shelf

section
theorem apX : Ap encX 22 45 4 (.agg #[.int .i64 0, .int .i64 0, .int .i64 0, .int .i64 0]) 32 :=
  ⟨Tryz.underlying22, info_parts (by kernel_rfl), by decide, by decide, by decide, lenX, fun x v hv => by simp [encX] at hv; rcases hv with rfl | rfl | rfl | rfl <;> rfl⟩
def mvL (d : Pt) (l : List Bx4) (i : Nat) : List Bx4 := (l.take i).map (mvB d)
theorem mvL_len (d : Pt) (l : List Bx4) {i : Nat} (h : i ≤ l.length) : (mvL d l i).length = i := by
  unfold mvL
  rw [List.length_map, List.length_take]
  omega
theorem mvL_succ (d : Pt) (l : List Bx4) {i : Nat} (h : i < l.length) : mvL d l (i + 1) = mvL d l i ++ [mvB d l[i]!] := by
  unfold mvL
  rw [List.take_succ_eq_append_getElem h, getElem!_pos l i h, List.map_append]
  rfl
theorem mvL_all (d : Pt) (l : List Bx4) : mvL d l l.length = l.map (mvB d) := by
  unfold mvL
  rw [List.take_length]
set_option maxHeartbeats 8000000 in
set_option maxRecDepth 100000 in
theorem nearMoved_walk (l : List Bx4) (v : Value) (x y a b : Int) (W : World) (hv : Sl encX W v l) {eR eN eF : TypeId × Value} (hE : Er3 W eR eN eF) :
    Calls Tryz.prog 9 #[v, .agg #[.int .i64 x, .int .i64 y], .agg #[.int .i64 a, .int .i64 b]] W fun e w' => e = .returned (.bool true) ∧ RowKit.Below W.heap.size W w' := by
  obtain ⟨w0, hw0⟩ : ∃ w0, w0 = (W.alloc (.cells #[.int .i64 x, .int .i64 y] 24)).alloc (.cells #[.int .i64 a, .int .i64 b] 24) := ⟨_, rfl⟩
  have hb0 : RowKit.Below W.heap.size W w0 := by rw [hw0]; exact Ba (Ba (Below.refl _ W) _) _
  obtain ⟨hk0, hk1⟩ := three_blk (w := W) (o1 := .cells #[.int .i64 x, .int .i64 y] 24) (o2 := .cells #[.int .i64 a, .int .i64 b] 24) (w3 := w0) (by rw [hw0]; exact Below.refl _ _)
  have AL := Lib.hid (alive_any w0 (hE.below hb0))
  obtain ⟨pv, cv, rfl, hv1, hv2, hv3⟩ := hv
  have HSV := Lib.hid (show Sl encX W (.slice pv l.length cv) l from ⟨pv, cv, rfl, hv1, hv2, hv3⟩)
  have HV := Lib.hid hv3
  have FI := Lib.hid (fun w (hb : RowKit.Below w0.heap.size w0 w) => filled_call l _ w (HSV.out.below (Bt hb0 hb)) (hE.below (Bt hb0 hb)))
  have HE := Lib.hid hE
  have B0 := Lib.hid hb0
  have HW := Lib.hid hw0
  have K0 := Lib.hid hk0
  have K1 := Lib.hid hk1
  have hbl : W.heap.size < w0.heap.size := by rw [hw0]; simp; omega
  obtain ⟨pb, hpb⟩ : ∃ pb, pb = W.heap.size := ⟨_, rfl⟩
  obtain ⟨qb, hqb⟩ : ∃ qb, qb = W.heap.size + 1 := ⟨_, rfl⟩
  have HPB := Lib.hid hpb
  have HQB := Lib.hid hqb
  rw [← hpb] at hbl K0
  rw [← hqb] at K1
  clear hb0 hk0 hk1 hw0 hE hpb hqb hv3
  go_enter Tryz.func9, Tryz.ntmps9
  go_wp2_with fail
  rw [← HW.out, ← HQB.out, ← HPB.out]
  refine AL.out.mono ?_
  rintro e w1 ⟨rfl, hb1⟩
  have F1 := Lib.hid (FI.out w1 hb1)
  have B1 := Lib.hid (Bt B0.out hb1)
  have KA := Lib.hid (blk_below K0.out hb1)
  have KB := Lib.hid (blk_below K1.out hb1)
  clear hb1 AL FI K0 K1 HW hbl
  go_wp2_with fail
  refine F1.out.mono ?_
  rintro e w2 ⟨⟨pt, vm, rfl, hR⟩, hb2⟩
  have B2 := Lib.hid (Bt B1.out hb2)
  have k2 := blk_below KA.out hb2
  have k3 := blk_below KB.out hb2
  clear hb2 F1 KA KB B1
  cases hf : fillB l
  · clear hR hf
    go_wp2
    go_ret
    exact ⟨rfl, B2.out⟩
  obtain ⟨⟨M, hT⟩, -⟩ := hR hf
  obtain ⟨hn, hfe⟩ := fillB_iff.1 hf
  have ho := fl_once l l.length (by omega)
  have hL := fl_len l l.length
  have hok := hT.okB
  obtain ⟨d1, d2, _, _⟩ := two_cells k2
  obtain ⟨d3, d4, _, _⟩ := two_cells k3
  have hpl := cell_lt d1
  have hql := cell_lt d3
  clear hR hf
  by_cases g0 : a < -1048576
  · clear hT hok ho hL
    go_wp2
    go_ret
    exact ⟨rfl, B2.out⟩
  by_cases g1 : a > 1048576
  · clear hT hok ho hL
    go_wp2
    go_ret
    exact ⟨rfl, B2.out⟩
  by_cases g2 : b < -1048576
  · clear hT hok ho hL
    go_wp2
    go_ret
    exact ⟨rfl, B2.out⟩
  by_cases g3 : b > 1048576
  · clear hT hok ho hL
    go_wp2
    go_ret
    exact ⟨rfl, B2.out⟩
  by_cases g4 : x < -1048576
  · clear hT hok ho hL
    go_wp2
    go_ret
    exact ⟨rfl, B2.out⟩
  by_cases g5 : x > 1048576
  · clear hT hok ho hL
    go_wp2
    go_ret
    exact ⟨rfl, B2.out⟩
  by_cases g6 : y < -1048576
  · clear hT hok ho hL
    go_wp2
    go_ret
    exact ⟨rfl, B2.out⟩
  by_cases g7 : y > 1048576
  · clear hT hok ho hL
    go_wp2
    go_ret
    exact ⟨rfl, B2.out⟩
  have K2 := Lib.hid k2
  have K3 := Lib.hid k3
  have HFE := Lib.hid hfe
  have HTT := Lib.hid hT
  have hlz : (l.length : Int) ≤ 60 := by omega
  have R0 := Lib.hid (World.ownsRow_made (e := 45) (size := 4) w2 #[] 0 (base := w2.heap.size) (Nat.le_refl _) (Nat.zero_le _) (by simp))
  have B20 := Lib.hid (Ba (Below.refl _ w2) (.cells #[] 45))
  have hP : placeB (x, y) = true := by simp [placeB, inM]; omega
  clear hT hok ho hL hfe k2 k3
  go_wp2
  clear d1 d2 d3 d4 hpl hql
  go_loopw [10, 72] (fun vm u wr => ∃ i : Nat, u = .int .i64 i ∧ i ≤ l.length ∧ RowKit.Below w2.heap.size w2 wr ∧ wr.ownsRow w2.heap.size 45 4 vm (mvL (a, b) l i).length (flat encX (mvL (a, b) l i))) (fun _ u _ => l.length - (intOf u).toNat)
  case atStart => exact ⟨0, rfl, Nat.zero_le _, B20.out, R0.out⟩
  case round =>
    clear R0 B20
    obtain ⟨i, rfl, hi, hb, hro⟩ := hrel
    have HBi := Lib.hid hb
    have HR := Lib.hid hro
    obtain ⟨d3, d4, _, _⟩ := two_cells (blk_below K3.out hb)
    have hql := cell_lt d3
    clear hb hro
    by_cases hil : i < l.length
    · obtain ⟨g, o, rfl, hg, hc⟩ := HV.out (by omega)
      obtain ⟨a1, a2, a3, a4⟩ := atX hc hil
      have bB := Bt B2.out HBi.out
      replace a1 := Bc bB hg a1
      replace a2 := Bc bB hg a2
      replace a3 := Bc bB hg a3
      replace a4 := Bc bB hg a4
      have hgl := Bl bB hg
      have HS := Lib.hid (mvL_succ (a, b) l hil)
      have hll : (mvL (a, b) l i).length ≤ 60 := by rw [mvL_len _ _ hi]; omega
      have hw := okW_iff.1 (errB_zero.1 (HFE.out i hil)).2
      generalize l[i]! = z at *
      obtain ⟨x1, x2, x3, x4⟩ := z
      dsimp only at a1 a2 a3 a4 hw
      unfold mvB at HS
      dsimp only at HS
      obtain ⟨u1, u2, u3, u4, u5, u6, u7, u8⟩ := hw
      have bA := Ba (Ba (Below.refl _ wr) (.cells #[.int .i64 x1, .int .i64 x2, .int .i64 x3, .int .i64 x4] 45)) (.cells #[.int .i64 (x1 + a), .int .i64 (x2 + b), .int .i64 (x3 + a), .int .i64 (x4 + b)] 45)
      have R2 := Lib.hid (row_below HR.out bA)
      have B5 := Lib.hid (Bt HBi.out bA)
      have L2 := Lib.hid (sl_lit (enc := encX) (w := wr.alloc (.cells #[.int .i64 x1, .int .i64 x2, .int .i64 x3, .int .i64 x4] 45)) (cs := #[.int .i64 (x1 + a), .int .i64 (x2 + b), .int .i64 (x3 + a), .int .i64 (x4 + b)]) (t := 45) (b := wr.heap.size + 1) [(x1 + a, x2 + b, x3 + a, x4 + b)] (by simp) rfl (by unfold maxLen; simp))
      clear hc bB bA
      go_wp2_with (at_builtin; refine wpl_app2 apX rfl _ _ rfl w2.heap.size (by rfl) (by rfl) R2.out rfl L2.out (by simp; omega) B5.out.size ?_; intro v9 w9 hown9 hgrow9 hat9 hnil9; have O9 := Lib.hid hown9; have B9 := Lib.hid (grownB B5.out R2.out hgrow9); clear hown9 hgrow9 hat9 hnil9)
      go_roundw
      case measure => simp only [intOf]; omega
      case rel => exact ⟨i + 1, by go_num, by omega, B9.out, by rw [HS.out]; exact O9.out⟩
    · have hin : i = l.length := by omega
      subst hin
      have HR2 := Lib.hid (row_sl lenX HR.out rfl)
      rw [mvL_all] at HR2
      have F5 := Lib.hid (filled_call (l.map (mvB (a, b))) _ wr HR2.out (HE.out.below (Bt B2.out HBi.out)))
      clear HR hil d3 d4 hql
      go_wp2_with fail
      refine F5.out.mono ?_
      rintro e w5 ⟨⟨pu, vu, rfl, hR⟩, hb5⟩
      have B5 := Lib.hid (Bt HBi.out hb5)
      clear hb5 F5
      cases hf : fillB (l.map (mvB (a, b)))
      · clear hR hf
        go_wp2
        go_ret
        exact ⟨rfl, Bt B2.out B5.out⟩
      obtain ⟨⟨M', hT'⟩, -⟩ := hR hf
      have hmv := allN_mv (a, b) (x, y) l l.length (Nat.le_refl _)
      have hlf := fl_len l l.length
      have hlm : (l.map (mvB (a, b))).length = l.length := List.length_map _
      rw [hlm] at hT'
      have hlf' := fl_len (l.map (mvB (a, b))) l.length
      have N1 := Lib.hid (nNearest_do x y (l.length : Int) ((fr_tr pt _).below HTT.out B5.out) (by rw [hP]; simp) (by omega))
      have NN := Lib.hid (fun w (hb : RowKit.Below w5.heap.size w5 w) (h : placeB (x + a, y + b) = true) => nNearest_do (x + a) (y + b) (l.length : Int) ((fr_tr pu _).below hT' hb) (by rw [h]; simp) (by omega))
      have NF := Lib.hid (fun w (hb : RowKit.Below w5.heap.size w5 w) (h : placeB (x + a, y + b) = false) => nNearest_no (x + a) (y + b) (l.length : Int) ((fr_tr pu _).below hT' hb) (by rw [h]; rfl) (HE.out.below (Bt B2.out (Bt B5.out hb))))
      simp only [hmv] at NN
      generalize (allN (fl l l.length) (x, y)).take ((l.length : Int)).toNat = N at *
      obtain ⟨d1, d2, _, _⟩ := two_cells (blk_below K2.out B5.out)
      have hpl := cell_lt d1
      clear hR hf hmv hT' hlf hlf' hlm
      go_wp2_with fail
      refine N1.out.mono ?_
      rintro e w6 ⟨v6, rfl, hs6, hb6⟩
      have S6 := Lib.hid hs6
      have B6 := Lib.hid hb6
      have B26 := Lib.hid (Bt B5.out hb6)
      obtain ⟨d1, d2, _, _⟩ := two_cells (blk_below K2.out B26.out)
      obtain ⟨d3, d4, _, _⟩ := two_cells (blk_below K3.out B26.out)
      have hpl := cell_lt d1
      have hql := cell_lt d3
      clear N1 hs6 hb6
      cases hp2 : placeB (x + a, y + b)
      · have N2 := Lib.hid (NF.out w6 B6.out hp2)
        clear NN NF hp2
        go_wp2_with fail
        refine N2.out.mono ?_
        rintro e w7 ⟨v7, rfl, _, hb7⟩
        have B7 := Lib.hid (Bt (Bt B2.out B26.out) hb7)
        clear hb7 N2
        go_wp2
        go_ret
        exact ⟨by simp, B7.out⟩
      · have N2 := Lib.hid (NN.out w6 B6.out hp2)
        clear NN NF hp2
        go_wp2_with fail
        refine N2.out.mono ?_
        rintro e w7 ⟨v7, rfl, hs7, hb7⟩
        have B7 := Lib.hid (Bt (Bt B2.out B26.out) hb7)
        have SM := Lib.hid (same_call N N v6 v7 w7 (S6.out.below hb7) hs7)
        rw [decide_eq_true rfl] at SM
        clear hb7 N2 hs7
        go_wp2_with fail
        refine SM.out.mono ?_
        rintro e w8 ⟨rfl, hg8⟩
        have B8 := Lib.hid (Bt B7.out hg8.below)
        clear hg8 SM
        go_wp2
        go_ret
        exact ⟨by simp, B8.out⟩
end
end Go.Proofs.YtahichjiphjapaaGreatDoor

/-
  Whatever boxes, point and way it is given, NearMoved answers true and leaves its arguments as they were. Conditions: the errors' variables that it names read as the program's text lays them (the card ties them to that text).
-/
namespace Go.Proofs.YtahichjiphjapaaGreatDoor
set_option linter.unusedSimpArgs false
set_option linter.unusedVariables false
open Go.ChangeShapes Go.WideShapes Go.ChangeAt Go.RowKit Go.Joins

set_option maxRecDepth 100000 in
theorem nearMoved_lifted (os : Os) (started : os.Started) (H : Type) (enc : TypeId × Value → H) :
    ReturnsInHanded {} Tryz.checked os 9 .any (fun w args => (Rows.nearMovedSpec.pre enc Tryz.prog Tryz.f9 [] false w args ∧ laidMetH Tryz.prog Rows.nearMovedRow.laid w) ∧ sizedMet enc Tryz.prog Tryz.f9 (OpenSpec.ofChange Rows.nearMovedSpec) false w args)
      (Rows.nearMovedSpec.post enc Tryz.prog Tryz.f9 false true false false) := by
  refine returnsInHanded_of_change_and (C := Tryz.checked) (X := fun w _ => laidMetH Tryz.prog Rows.nearMovedRow.laid w) (fun _ _ _ hh h => h.of_heap hh) own started (by kernel_rfl) Tryz.func9
    (ChangeSpec.witness_shaped (enc := enc) (C := Tryz.checked) (os := os) (X := fun w _ => laidMetH Tryz.prog Rows.nearMovedRow.laid w) false (World.doorLaid Tryz.prog 199 os) #[.slice none 0 0, .agg #[.int .i64 0, .int .i64 0], .agg #[.int .i64 0, .int .i64 0]] 8 rfl (World.shaped_of_RefB (by kernel_rfl) (by kernel_rfl)) (by kernel_rfl) (by kernel_rfl) (by kernel_rfl) (laidMetH_of_parts3 (fuel := 8) (laidMet_of_run' 8 (by kernel_rfl) (by kernel_rfl)) (by kernel_rfl) (by kernel_rfl))) ?_
  intro W base args ds gs before hval0 hW _ _ hL _
  have hval : ∀ (j : Nat) t v, Tryz.f9.params[j]? = some t → args[j]? = some v → Value.okWide Tryz.prog W .any base t v := hval0
  have hW' := hW
  obtain ⟨p, q, hA0, hV, rfl, hfz, hnd⟩ := hW
  have hA : DataW.TrodAll enc Tryz.prog W 0 (fun _ => true) true Tryz.f9.params.toList args.toList ds p := hA0
  rw [Tryz.params9] at hA hval
  obtain ⟨v0, vs0, d0, ds0, p0, q0, hargs, rfl, rfl, h0, r0⟩ := trodAll_cons hA
  obtain ⟨v1, vs1, d1, ds1, p1, q1, rfl, rfl, rfl, h1, r1⟩ := trodAll_cons r0
  obtain ⟨v2, vs2, d2, ds2, p2, q2, rfl, rfl, rfl, h2, r2⟩ := trodAll_cons r1
  obtain ⟨rfl, rfl, rfl⟩ := trodAll_nil r2
  obtain rfl : args = #[v0, v1, v2] := by cases args; simp_all
  obtain ⟨l0, hl0⟩ := open_boxes (hval 0 22 v0 rfl rfl) h0
  obtain ⟨a1, b1, rfl⟩ := open_pt (hval 1 24 v1 rfl rfl) h1
  obtain ⟨a2, b2, rfl⟩ := open_pt (hval 2 24 v2 rfl rfl) h2
  clear hA0 hval0
  have hL' : laidMet Tryz.prog Rows.nearMovedRow.laid W := by
    have h := hL
    rw [MakeChecks.laidMetH_plain _ _ _ (by kernel_rfl)] at h
    exact h
  obtain ⟨aR, hR⟩ := sent_range hL' (.head _)
  obtain ⟨aN, hN⟩ := sent_none hL' (.tail _ (.head _))
  obtain ⟨aF, hF⟩ := sent_form hL' (.tail _ (.tail _ (.head _)))
  refine (nearMoved_walk l0 v0 a1 b1 a2 b2 W hl0 (Er3.three hR hN hF)).mono fun e W' ⟨he, hb⟩ => ?_
  subst he
  exact ⟨_, rfl, law_post laidOut (by kernel_rfl) rfl (by kernel_rfl) Tryz.underlying4 (fun ds hd => by match ds, hd with | [_, _, _], _ => rfl) hW' hb⟩

theorem nearMoved_row : Rows.NearMovedSaid :=
  OpenClaim.holds_of_wide 9 Tryz.f9 rfl rfl rfl rfl rfl rfl rfl ⟨rfl, rfl, rfl, rfl, rfl⟩ rfl rfl rfl rfl rfl (by kernel_rfl) Tryz.func9 (by kernel_rfl)
    (of_decide_eq_true (by kernel_rfl)) (by unfold Func.isWrapper; first | (rw [if_pos (by decide +kernel)]; kernel_rfl) | (rw [if_neg (by decide +kernel)]; exact ⟨rfl, rfl⟩))
    (fun os started H enc _ => nearMoved_lifted os started H enc)

theorem nearMoved_holds : Rows.NearMovedCardSaid :=
  Claim7.holds_tied_plain_at .later [] Rows.nearMovedCard.laidKinds true Rows.nearMovedCard.stood.harness true
    nearMoved_row (fun _ h => by cases h) (by kernel_rfl) (fun _ h => by cases h) nearMoved_row_tie rfl ⟨rfl, rfl⟩ (by kernel_rfl) rfl
    (fun f fn hf hfn => by
      obtain rfl : f = 9 := Option.some.inj ((show Tryz.prog.funcNamed "paddock/paddocklaw13.NearMoved" = some 9 by kernel_rfl).symm.trans hf) |>.symm
      obtain rfl : fn = Tryz.f9 := (Option.some.inj (Tryz.func9.symm.trans hfn)).symm
      exact ⟨by kernel_rfl, fun j t ht => by
        rw [Tryz.params9] at ht
        have hm : t ∈ [22, 24] := by
          have := Array.mem_of_getElem? ht
          simp at this ⊢
          first | omega | (rcases this with h | h | h <;> simp [h])
        have hall : ([22, 24].all fun u => !Tryz.prog.wantsStandIn u) = true := by kernel_rfl
        exact (show Tryz.prog.wantsStandIn t = false by simpa using List.all_eq_true.1 hall t hm)⟩)
    (by kernel_rfl)
#print axioms nearMoved_holds
end Go.Proofs.YtahichjiphjapaaGreatDoor
