/-
  The walk of QueryOf.
-/
import Derived.Test.YtaehendpdfpibaaDoorQo9
import Derived.Test.YtaehendpdfpibaaDoorBn9
import Derived.Test.YtaehendpdfpibaaDoorNu9
import Derived.Test.YtaehendpdfpibaaDoorErrK
import Derived.Test.YtaehendpdfpibaaDoorVt
namespace Go.Proofs.YtaehendpdfpibaaDoor
set_option linter.unusedSimpArgs false
set_option linter.unusedVariables false
open Go.RowKit Go.Sort Go.Lib Go.Shelf

theorem wpl_ldg {ops : Array Oper} {rest : List Oper} {o : Oper} {a : Act} {w : World} {Q : Exit → Act → World → Prop} (hw : Region.wanted o (yielded ops a.tmps) = true) (x : Operand) (ho : o.op = .load 46 x)
    (g : Nat) (hx : a.eval x = .pointer (some ⟨g, 0, none⟩)) (f : Nat → Bool) (t : TypeId) (hg : w.heap[g]? = some (.cells (bv f) t (0, 0)))
    (h : wpList Tryd.prog ops Q rest (a.put o.dst (.agg (bv f))) w) : wpList Tryd.prog ops Q (o :: rest) a w := by
  unfold wpList
  rw [if_pos hw]
  exact .inl (wp_load_row 46 x ho g hx t (bv f) (0, 0) _ hg Tryd.underlying46 rfl (by rw [bv_size]; kernel_rfl) h)
theorem errK9 {A : Nat → Addr} {w : World} (h : Errs w A) : ErrK w (A 4) := h.cell 4 (by omega)
/-- The reference's mask of kinds. -/
def r9N (l : List Int) : Nat := if l.all kindB then foldN true 0 l else 0
set_option maxHeartbeats 2000000 in
set_option maxRecDepth 100000 in
theorem r9mask_call (l : List Int) (v : Value) (w : World) (hl : Sl encI w v l) :
    Calls Tryd.prog 7 #[v] w fun e w' => e = .returned (.tuple #[.int .u64 (r9N l : Nat), .bool (l.all kindB)]) ∧ RowKit.Below w.heap.size w w' := by
  obtain ⟨z, hzz⟩ : ∃ z : Nat → Bool, z = fun _ => false := ⟨_, rfl⟩
  have hz0 : #[.bool false, .bool false, .bool false, .bool false, .bool false, .bool false, .bool false, .bool false, .bool false, .bool false, .bool false, .bool false, .bool false, .bool false, .bool false, .bool false, .bool false, .bool false, .bool false, .bool false, .bool false, .bool false, .bool false, .bool false, .bool false, .bool false, .bool false, .bool false, .bool false, .bool false, .bool false, .bool false, .bool false, .bool false, .bool false, .bool false, .bool false, .bool false, .bool false, .bool false, .bool false, .bool false, .bool false, .bool false, .bool false, .bool false, .bool false, .bool false, .bool false, .bool false, .bool false, .bool false, .bool false, .bool false, .bool false, .bool false, .bool false, .bool false, .bool false, .bool false, .bool false, .bool false, .bool false, .bool false] = bv z := by rw [hzz]; exact bv_zero.symm
  have hs := bv_size
  have C1 := Lib.hid (set_call true z l v w hl)
  obtain ⟨Y, b, n, h1, h2, h3⟩ : ∃ (Y : Nat → Bool) (b : Bool) (n : Nat), setK true z l = .tuple #[.agg (bv Y), .bool b] ∧ b = l.all kindB ∧ valN Y 64 = n ∧ n = r9N l := by
    cases hk : l.all kindB with
    | false =>
      refine ⟨fun _ => false, false, 0, setK_no hk, rfl, valN_of (by decide) (fun i _ => Nat.zero_testBit i), ?_⟩
      unfold r9N
      rw [hk]
      rfl
    | true =>
      have hall : ∀ k ∈ l, kindB k = true := fun k h => List.all_eq_true.1 hk k h
      refine ⟨foldF true z l, true, foldN true 0 l, setK_yes hk, rfl, valN_of (foldN_lt true 0 l (by decide) hall) fun i _ => (fold_both true l 0 z (by decide) (fun i => by rw [hzz]; exact Nat.zero_testBit i) hall).2 i, ?_⟩
      unfold r9N
      rw [hk]
      rfl
  rw [h1] at C1
  rw [← h2, ← h3.2]
  have C2 : Hid (∀ W, Calls Tryd.prog 15 #[.agg (bv Y)] W fun e w' => e = .returned (.int .u64 n) ∧ Gr W w') := fun W => by rw [← h3.1]; exact number_call Y W
  obtain ⟨pv, cv, rfl, _, _, _⟩ := hl
  clear h1 h2 h3 hzz
  go_enter Tryd.func7, Tryd.ntmps7
  go_wp2_with fail
  refine C1.out.mono ?_
  rintro e w1 ⟨rfl, hg1⟩
  have B1 := Lib.hid (Ba hg1.below (.cells (bv Y) 46))
  have hst := fun f g t => st_new w1 w1.heap.size rfl f g t
  have X1 := Lib.hid (heap_alloc_new w1 (.cells (bv Y) 46))
  clear hg1 C1
  go_wp2_with (refine wpl_ldg (by rfl) _ rfl w1.heap.size (by rfl) Y 46 X1.out ?_)
  refine (C2.out _).mono ?_
  rintro e w2 ⟨rfl, hg2⟩
  have B2 := Lib.hid (Bt B1.out hg2.below)
  clear hg2
  go_wp2
  go_ret2
  exact ⟨rfl, B2.out⟩
section
variable {A : Nat → Addr}
theorem right_len {l : List Vl} (h : RightV l) : l.length ≤ 100000 := by
  have := rowL_len l
  rw [(right_row h).2] at this
  omega
theorem qofV_lt {l : List Int} (h : l.all kindB = true) : foldN true 0 l < 18446744073709551616 := foldN_lt true 0 l (by decide) (fun k hk => List.all_eq_true.1 h k hk)
set_option maxHeartbeats 8000000 in
set_option maxRecDepth 100000 in
theorem queryOf_walk (la lb : List Int) (lr : List Vl) (va vb vr : Value) (w : World) (ha : Sl encI w va la) (hb : Sl encI w vb lb) (hr : Sl encV w vr lr) (hE : Errs w A) :
    Calls Tryd.prog 3 #[va, vb, vr] w fun e w' => e = .returned (.bool true) ∧ RowKit.Below w.heap.size w w' := by
  have C0 := Lib.hid (alive9_any w (A 4) (errK9 hE))
  have HA := Lib.hid (show ∀ W, RowKit.Below w.heap.size w W → Sl encI W va la from fun W h => ha.below h)
  have HB := Lib.hid (show ∀ W, RowKit.Below w.heap.size w W → Sl encI W vb lb from fun W h => hb.below h)
  have HR := Lib.hid (show ∀ W, RowKit.Below w.heap.size w W → Sl encV W vr lr from fun W h => hr.below h)
  have HE := Lib.hid (show ∀ W, RowKit.Below w.heap.size w W → Errs W A from fun W h => hE.below h)
  have HAA := Lib.hid ha
  have HBB := Lib.hid hb
  obtain ⟨pa, ca, rfl, hca, hma, _⟩ := ha
  obtain ⟨pb, cb, rfl, hcb, hmb, _⟩ := hb
  obtain ⟨pr, cr, rfl, hcr, hmr, _⟩ := hr
  unfold maxLen at hma hmb hmr
  have ha9 : la.length ≤ 9223372036854775807 := by omega
  have hb9 : lb.length ≤ 9223372036854775807 := by omega
  have hr9 : lr.length ≤ 9223372036854775807 := by omega
  clear hE hma hmb hmr
  by_cases h1 : la.length > 100
  · have h1' : (la.length : Int) > 100 := by omega
    go_enter Tryd.func3, Tryd.ntmps3
    go_wp2_with fail
    refine C0.out.mono ?_
    rintro e w1 ⟨rfl, hb1⟩
    go_wp2
    go_ret
    exact ⟨rfl, hb1⟩
  · have h1' : ¬ (la.length : Int) > 100 := by omega
    by_cases h2 : lb.length > 100
    · have h2' : (lb.length : Int) > 100 := by omega
      go_enter Tryd.func3, Tryd.ntmps3
      go_wp2_with fail
      refine C0.out.mono ?_
      rintro e w1 ⟨rfl, hb1⟩
      go_wp2
      go_ret
      exact ⟨rfl, hb1⟩
    · have h2' : ¬ (lb.length : Int) > 100 := by omega
      by_cases h3 : lr.length > 20
      · have h3' : (lr.length : Int) > 20 := by omega
        go_enter Tryd.func3, Tryd.ntmps3
        go_wp2_with fail
        refine C0.out.mono ?_
        rintro e w1 ⟨rfl, hb1⟩
        go_wp2
        go_ret
        exact ⟨rfl, hb1⟩
      · have h3' : ¬ (lr.length : Int) > 20 := by omega
        have la1 : la.length ≤ 100000 := by omega
        have lb1 : lb.length ≤ 100000 := by omega
        have lr1 : lr.length ≤ 100000 := by omega
        have CI1 : Hid (∀ W, RowKit.Below w.heap.size w W → Calls Tryd.prog 5 #[.slice pa la.length ca] W fun e w' => ∃ g cap, e = .returned (.slice (some ⟨g, 0, none⟩) la.length cap) ∧ w'.ownsRow W.heap.size 3 1 (.slice (some ⟨g, 0, none⟩) (la.length + 4) cap) (la.length + 4) (flat encI (la ++ marks)) ∧ RowKit.Below W.heap.size W w') := fun W h => numInts_call la _ W (HA.out W h) la1
        have CI2 : Hid (∀ W, RowKit.Below w.heap.size w W → Calls Tryd.prog 5 #[.slice pb lb.length cb] W fun e w' => ∃ g cap, e = .returned (.slice (some ⟨g, 0, none⟩) lb.length cap) ∧ w'.ownsRow W.heap.size 3 1 (.slice (some ⟨g, 0, none⟩) (lb.length + 4) cap) (lb.length + 4) (flat encI (lb ++ marks)) ∧ RowKit.Below W.heap.size W w') := fun W h => numInts_call lb _ W (HB.out W h) lb1
        have CM1 : Hid (∀ W, RowKit.Below w.heap.size w W → Calls Tryd.prog 7 #[.slice pa la.length ca] W fun e w' => e = .returned (.tuple #[.int .u64 (r9N la : Nat), .bool (la.all kindB)]) ∧ RowKit.Below W.heap.size W w') := fun W h => r9mask_call la _ W (HA.out W h)
        have CM2 : Hid (∀ W, RowKit.Below w.heap.size w W → Calls Tryd.prog 7 #[.slice pb lb.length cb] W fun e w' => e = .returned (.tuple #[.int .u64 (r9N lb : Nat), .bool (lb.all kindB)]) ∧ RowKit.Below W.heap.size W w') := fun W h => r9mask_call lb _ W (HB.out W h)
        have CK1 : Hid (∀ W base g cap, RowKit.Below w.heap.size w W → W.ownsRow base 3 1 (.slice (some ⟨g, 0, none⟩) (la.length + 4) cap) (la.length + 4) (flat encI (la ++ marks)) → Calls Tryd.prog 8 #[.slice (some ⟨g, 0, none⟩) la.length cap, .slice pa la.length ca] W fun e w' => e = .returned (.bool true) ∧ Gr W w') := fun W base g cap h ho => keptInts_call la base g cap _ W ho (HA.out W h) la1
        have CK2 : Hid (∀ W base g cap, RowKit.Below w.heap.size w W → W.ownsRow base 3 1 (.slice (some ⟨g, 0, none⟩) (lb.length + 4) cap) (lb.length + 4) (flat encI (lb ++ marks)) → Calls Tryd.prog 8 #[.slice (some ⟨g, 0, none⟩) lb.length cap, .slice pb lb.length cb] W fun e w' => e = .returned (.bool true) ∧ Gr W w') := fun W base g cap h ho => keptInts_call lb base g cap _ W ho (HB.out W h) lb1
        have CR := Lib.hid (show ∀ W, RowKit.Below w.heap.size w W → Calls Tryd.prog 10 #[.slice pr lr.length cr] W fun e w' => e = .returned (.bool (rightB lr)) ∧ RowKit.Below W.heap.size W w' from fun W h => rright_call lr _ W (HR.out W h) lr1)
        obtain ⟨Q, hQ⟩ : ∃ Q, Q = qofV la lb (A 4) := ⟨_, rfl⟩
        have CO : Hid (∀ W g1 c1 g2 c2, RowKit.Below w.heap.size w W → Sl encI W (.slice (some ⟨g1, 0, none⟩) la.length c1) la → Sl encI W (.slice (some ⟨g2, 0, none⟩) lb.length c2) lb → Calls Tryd.prog 6 #[.slice (some ⟨g1, 0, none⟩) la.length c1, .slice (some ⟨g2, 0, none⟩) lb.length c2] W fun e w' => e = .returned Q ∧ RowKit.Below W.heap.size W w') := fun W g1 c1 g2 c2 h s1 s2 => by rw [hQ]; exact qof_call la lb _ _ (A 4) W s1 s2 (errK9 (HE.out W h))
        have eq1 := eqQ_run
        have gd1 := gdQ_run
        clear HAA HBB
        rcases Decidable.em (la.all kindB = true ∧ lb.all kindB = true) with hk | hk
        · obtain ⟨hka, hkb⟩ := hk
          have ea : r9N la = foldN true 0 la := by unfold r9N; rw [hka]; rfl
          have eb : r9N lb = foldN true 0 lb := by unfold r9N; rw [hkb]; rfl
          have e1 : Q = .tuple #[qV (foldN true 0 la) (foldN true 0 lb), .nilIface] := by rw [hQ]; unfold qofV; rw [hka, hkb]; rfl
          have hx := qofV_lt hka
          have hy := qofV_lt hkb
          rw [hka, ea] at CM1
          rw [hkb, eb] at CM2
          rw [e1] at CO
          clear hQ e1 ea eb
          have CF : Hid (∀ W, RowKit.Below w.heap.size w W → RightV lr → Calls Tryd.prog 11 #[qV (foldN true 0 la) (foldN true 0 lb), .slice pr lr.length cr] W fun e w' => e = .returned (.bool (fitN (maskV lr) (foldN true 0 la) (foldN true 0 lb))) ∧ RowKit.Below W.heap.size W w') := fun W h hrt => qfits _ _ hx hy lr _ W (A 4) (HR.out W h) hrt (errK9 (HE.out W h)) lr1
          have CG : Hid (∀ W, RowKit.Below w.heap.size w W → RightV lr → Calls Tryd.prog 12 #[.slice pr lr.length cr, .int .u64 (foldN true 0 la : Nat), .int .u64 (foldN true 0 lb : Nat)] W fun e w' => e = .returned (.bool (fitN (maskV lr) (foldN true 0 la) (foldN true 0 lb))) ∧ RowKit.Below W.heap.size W w') := fun W h hrt => rqfits _ _ hx hy lr _ W (HR.out W h) hrt lr1
          generalize fitN (maskV lr) (foldN true 0 la) (foldN true 0 lb) = F at *
          generalize foldN true 0 la = x at *
          generalize foldN true 0 lb = y at *
          clear hka hkb hx hy
          go_enter Tryd.func3, Tryd.ntmps3
          go_wp2_with fail
          refine C0.out.mono ?_
          rintro e w1 ⟨rfl, hb1⟩
          have B1 := Lib.hid hb1
          clear hb1 C0
          go_wp2_with fail
          refine (CI1.out _ B1.out).mono ?_
          rintro e w2 ⟨g2, c2, rfl, ho2, hb2⟩
          have B2 := Lib.hid (Bt B1.out hb2)
          have F2 : Hid (Sl encI w2 (.slice (some ⟨g2, 0, none⟩) la.length c2) la) := by
            have := row_sl lenI (frontI ho2 (by simp [marks]) la.length (by omega)) (by simp)
            rwa [List.take_left] at this
          have O2 := Lib.hid ho2
          clear ho2 hb2 CI1
          go_wp2_with fail
          refine (CI2.out _ B2.out).mono ?_
          rintro e w3 ⟨g3, c3, rfl, ho3, hb3⟩
          have B3 := Lib.hid (Bt B2.out hb3)
          have F3 : Hid (Sl encI w3 (.slice (some ⟨g3, 0, none⟩) lb.length c3) lb) := by
            have := row_sl lenI (frontI ho3 (by simp [marks]) lb.length (by omega)) (by simp)
            rwa [List.take_left] at this
          have O3 := Lib.hid ho3
          have O23 := Lib.hid (row_below O2.out hb3)
          have F23 := Lib.hid (F2.out.below hb3)
          clear ho3 hb3 CI2
          go_wp2_with fail
          refine (CO.out _ _ _ _ _ B3.out F23.out F3.out).mono ?_
          rintro e w4 ⟨rfl, hb4⟩
          have bQ := Ba (Below.refl _ w4) (.cells #[.int .u64 (x : Int), .int .u64 (y : Int)] 29)
          have X4 := Lib.hid (heap_alloc_new w4 (.cells #[.int .u64 (x : Int), .int .u64 (y : Int)] 29))
          have B4 := Lib.hid (Bt B3.out (Bt hb4 bQ))
          have O4 := Lib.hid (row_below O23.out (Bt hb4 bQ))
          have O5 := Lib.hid (row_below O3.out (Bt hb4 bQ))
          obtain ⟨W4, hW4⟩ : ∃ W4, W4 = w4.alloc (.cells #[.int .u64 (x : Int), .int .u64 (y : Int)] 29) := ⟨_, rfl⟩
          obtain ⟨qq, hqq⟩ : ∃ qq, qq = w4.heap.size := ⟨_, rfl⟩
          rw [← hW4] at B4 O4 O5
          rw [← hW4, ← hqq] at X4
          clear hb4 bQ CO F2 F3 F23 O2 O3 O23
          go_wp2_with fail
          rw [← hW4, ← hqq]
          clear hW4 hqq
          refine (CM1.out _ B4.out).mono ?_
          rintro e w5 ⟨rfl, hb5⟩
          have B5 := Lib.hid (Bt B4.out hb5)
          have P5 := Lib.hid hb5
          clear hb5 CM1
          go_wp2_with fail
          refine (CM2.out _ B5.out).mono ?_
          rintro e w6 ⟨rfl, hb6⟩
          have B6 := Lib.hid (Bt B5.out hb6)
          have P6 := Lib.hid (Bt P5.out hb6)
          have CK := Lib.hid (CK1.out w6 _ _ _ B6.out (row_below O4.out P6.out))
          clear hb6 CM2 P5
          go_wp2_with fail
          refine CK.out.mono ?_
          rintro e w7 ⟨rfl, hg7⟩
          have B7 := Lib.hid (Bt B6.out hg7.below)
          have P7 := Lib.hid (Bt P6.out hg7.below)
          have CK8 := Lib.hid (CK2.out w7 _ _ _ B7.out (row_below O5.out P7.out))
          clear hg7 CK CK1 P6
          go_wp2_with fail
          refine CK8.out.mono ?_
          rintro e w9 ⟨rfl, hg9⟩
          have B9 := Lib.hid (Bt B7.out hg9.below)
          have X9 := Lib.hid (blk_below X4.out (Bt P7.out hg9.below))
          clear hg9 CK8 CK2 P7 X4 O4 O5
          obtain ⟨q0, q1, _, _⟩ := two_cells X9.out
          have hql := cell_lt q0
          have C10 := Lib.hid (CR.out w9 B9.out)
          have CF9 := Lib.hid (fun (W : World) (h : RowKit.Below w.heap.size w W) (hb : rightB lr = true) => CF.out W h ((rightB_iff _).1 hb))
          have CG9 := Lib.hid (fun (W : World) (h : RowKit.Below w.heap.size w W) (hb : rightB lr = true) => CG.out W h ((rightB_iff _).1 hb))
          cases hrb : rightB lr with
          | false =>
            rw [hrb] at C10
            clear CF CG CF9 CG9 hrb
            go_wp2_with fail
            refine C10.out.mono ?_
            rintro e w10 ⟨rfl, hb10⟩
            have B10 := Lib.hid (Bt B9.out hb10)
            clear hb10
            go_wp2
            go_ret
            exact ⟨by simp, B10.out⟩
          | true =>
            rw [hrb] at C10
            have CF10 := Lib.hid (fun (W : World) (h : RowKit.Below w.heap.size w W) => CF9.out W h hrb)
            have CG10 := Lib.hid (fun (W : World) (h : RowKit.Below w.heap.size w W) => CG9.out W h hrb)
            clear CF CG CF9 CG9 hrb
            go_wp2_with fail
            refine C10.out.mono ?_
            rintro e w10 ⟨rfl, hb10⟩
            have B10 := Lib.hid (Bt B9.out hb10)
            clear q0 q1 hql
            obtain ⟨q0, q1, _, _⟩ := two_cells (blk_below X9.out hb10)
            have hql := cell_lt q0
            clear hb10 C10
            go_wp2_with fail
            refine (CF10.out _ B10.out).mono ?_
            rintro e w11 ⟨rfl, hb11⟩
            have B11 := Lib.hid (Bt B10.out hb11)
            clear hb11 q0 q1 hql
            go_wp2_with fail
            refine (CG10.out _ B11.out).mono ?_
            rintro e w12 ⟨rfl, hb12⟩
            have B12 := Lib.hid (Bt B11.out hb12)
            clear hb12
            go_wp2
            go_ret
            exact ⟨by simp, B12.out⟩
        · have e1 : Q = .tuple #[.agg #[.int .u64 0, .int .u64 0], .iface 81 (.pointer (some (A 4)))] := by
            rw [hQ]
            unfold qofV
            rw [if_neg (by simpa using hk)]
            rfl
          rw [e1] at CO
          have HK := Lib.hid (show (la.all kindB && lb.all kindB) = false by cases c1 : la.all kindB <;> cases c2 : lb.all kindB <;> simp_all)
          obtain ⟨x, hx⟩ : ∃ x : Int, x = 0 := ⟨_, rfl⟩
          generalize la.all kindB = ka at *
          generalize lb.all kindB = kb at *
          generalize r9N la = na at *
          generalize r9N lb = nb at *
          clear hQ e1 hk hx
          go_enter Tryd.func3, Tryd.ntmps3
          go_wp2_with fail
          refine C0.out.mono ?_
          rintro e w1 ⟨rfl, hb1⟩
          have B1 := Lib.hid hb1
          clear hb1 C0
          go_wp2_with fail
          refine (CI1.out _ B1.out).mono ?_
          rintro e w2 ⟨g2, c2, rfl, ho2, hb2⟩
          have B2 := Lib.hid (Bt B1.out hb2)
          have F2 : Hid (Sl encI w2 (.slice (some ⟨g2, 0, none⟩) la.length c2) la) := by
            have := row_sl lenI (frontI ho2 (by simp [marks]) la.length (by omega)) (by simp)
            rwa [List.take_left] at this
          have O2 := Lib.hid ho2
          clear ho2 hb2 CI1
          go_wp2_with fail
          refine (CI2.out _ B2.out).mono ?_
          rintro e w3 ⟨g3, c3, rfl, ho3, hb3⟩
          have B3 := Lib.hid (Bt B2.out hb3)
          have F3 : Hid (Sl encI w3 (.slice (some ⟨g3, 0, none⟩) lb.length c3) lb) := by
            have := row_sl lenI (frontI ho3 (by simp [marks]) lb.length (by omega)) (by simp)
            rwa [List.take_left] at this
          have O3 := Lib.hid ho3
          have O23 := Lib.hid (row_below O2.out hb3)
          have F23 := Lib.hid (F2.out.below hb3)
          clear ho3 hb3 CI2
          go_wp2_with fail
          refine (CO.out _ _ _ _ _ B3.out F23.out F3.out).mono ?_
          rintro e w4 ⟨rfl, hb4⟩
          have bQ := Ba (Below.refl _ w4) (.cells #[.int .u64 0, .int .u64 0] 29)
          have X4 := Lib.hid (heap_alloc_new w4 (.cells #[.int .u64 0, .int .u64 0] 29))
          have B4 := Lib.hid (Bt B3.out (Bt hb4 bQ))
          have O4 := Lib.hid (row_below O23.out (Bt hb4 bQ))
          have O5 := Lib.hid (row_below O3.out (Bt hb4 bQ))
          obtain ⟨W4, hW4⟩ : ∃ W4, W4 = w4.alloc (.cells #[.int .u64 0, .int .u64 0] 29) := ⟨_, rfl⟩
          obtain ⟨qq, hqq⟩ : ∃ qq, qq = w4.heap.size := ⟨_, rfl⟩
          rw [← hW4] at B4 O4 O5
          rw [← hW4, ← hqq] at X4
          clear hb4 bQ CO F2 F3 F23 O2 O3 O23
          go_wp2_with fail
          rw [← hW4, ← hqq]
          clear hW4 hqq
          refine (CM1.out _ B4.out).mono ?_
          rintro e w5 ⟨rfl, hb5⟩
          have B5 := Lib.hid (Bt B4.out hb5)
          have P5 := Lib.hid hb5
          clear hb5 CM1
          go_wp2_with fail
          refine (CM2.out _ B5.out).mono ?_
          rintro e w6 ⟨rfl, hb6⟩
          have B6 := Lib.hid (Bt B5.out hb6)
          have P6 := Lib.hid (Bt P5.out hb6)
          have CK := Lib.hid (CK1.out w6 _ _ _ B6.out (row_below O4.out P6.out))
          clear hb6 CM2 P5
          go_wp2_with fail
          refine CK.out.mono ?_
          rintro e w7 ⟨rfl, hg7⟩
          have B7 := Lib.hid (Bt B6.out hg7.below)
          have P7 := Lib.hid (Bt P6.out hg7.below)
          have CK8 := Lib.hid (CK2.out w7 _ _ _ B7.out (row_below O5.out P7.out))
          clear hg7 CK CK1 P6
          go_wp2_with fail
          refine CK8.out.mono ?_
          rintro e w9 ⟨rfl, hg9⟩
          have B9 := Lib.hid (Bt B7.out hg9.below)
          have X9 := Lib.hid (blk_below X4.out (Bt P7.out hg9.below))
          clear hg9 CK8 CK2 P7 X4 O4 O5
          obtain ⟨q0, q1, _, _⟩ := two_cells X9.out
          have hql := cell_lt q0
          have C10 := Lib.hid (num_kind (HE.out w9 B9.out))
          have hkk := HK.out
          cases ka <;> cases kb
          case true.true => simp at hkk
          all_goals
            clear hkk
            go_wp2_with fail
            refine C10.out.mono ?_
            rintro e w10 ⟨rfl, hb10⟩
            have B10 := Lib.hid (Bt B9.out hb10)
            clear hb10
            go_wp2
            go_ret
            exact ⟨by simp, B10.out⟩
end
end Go.Proofs.YtaehendpdfpibaaDoor
