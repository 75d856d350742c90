/-
  The reference: Form.
-/
import Derived.Test.YthodmicoejnfaaaDoorHj
namespace Go.Proofs.YthodmicoejnfaaaDoor
set_option linter.unusedSimpArgs false
set_option linter.unusedVariables false
open Go.RowKit Go.Sort Go.Lib Go.Shelf

set_option maxHeartbeats 1000000 in
theorem in_call (l : List Int) (v : Value) (x : Int) (w : World) (hl : Sl encI w v l) : Calls Tryd.prog 33 #[v, .int .i64 x] w fun e w' => e = .returned (.bool (decide (x ∈ l))) ∧ Gr w w' := by
  obtain ⟨p, cap, rfl, h1, h2, h⟩ := hl
  have hbig : l.length ≤ 9223372036854775807 := by unfold maxLen at h2; omega
  have HL := Lib.hid h
  clear h h2
  go_enter Tryd.func33, Tryd.ntmps33
  go_wp2
  go_loopw [9] (fun i wr => ∃ k : Nat, k ≤ l.length ∧ i = .int .i64 k ∧ wr = w ∧ ¬ x ∈ l.take k) (fun i _ => l.length - (intOf i).toNat)
  case atStart => exact ⟨0, Nat.zero_le _, rfl, rfl, by simp⟩
  case round =>
    obtain ⟨k, hk, rfl, rfl, ht⟩ := hrel
    by_cases hkn : k < l.length
    · obtain ⟨g, o, rfl, hg1, hg2⟩ := HL.out (by omega)
      have c1 := atI hg2 hkn
      have et : l.take (k + 1) = l.take k ++ [l[k]!] := by rw [getElem!_pos l k hkn]; exact List.take_succ_eq_append_getElem hkn
      generalize hy : l[k]! = y at *
      have HT := Lib.hid ht
      have ET := Lib.hid et
      clear ht hg2 hy et
      by_cases hxy : y = x
      · subst hxy
        have HM := Lib.hid (show decide (y ∈ l) = true from decide_eq_true (List.mem_of_mem_take (by rw [ET.out]; simp : y ∈ l.take (k + 1))))
        go_wp2
        go_ret
        exact ⟨by rw [HM.out]; rfl, (by repeat (first | with_reducible exact Gr.refl _ | with_reducible assumption | with_reducible apply Gr.alloc | with_reducible apply Gr.drewN | with_reducible apply Gr.drew | with_reducible apply Gr.grow | (with_reducible refine Gr.trans ?_ (by assumption))))⟩
      · have hne : (y == x) = false := by simpa using hxy
        have HM := Lib.hid (show ¬ x ∈ l.take (k + 1) by
          rw [ET.out]
          simp only [List.mem_append, List.mem_singleton, not_or]
          exact ⟨HT.out, fun e => hxy e.symm⟩)
        clear hxy
        go_wp2
        go_roundw
        case measure => simp [intOf]; omega
        case rel => exact ⟨k + 1, by omega, by go_num, trivial, HM.out⟩
    · have hkn' : k = l.length := by omega
      have HM := Lib.hid (show decide (x ∈ l) = false from decide_eq_false (by rwa [hkn', List.take_length] at ht))
      clear ht
      go_wp2
      go_ret
      exact ⟨by rw [HM.out]; rfl, (by repeat (first | with_reducible exact Gr.refl _ | with_reducible assumption | with_reducible apply Gr.alloc | with_reducible apply Gr.drewN | with_reducible apply Gr.drew | with_reducible apply Gr.grow | (with_reducible refine Gr.trans ?_ (by assumption))))⟩


section
variable {S : List Slt} {Fr : List Int} {w : World}

set_option maxHeartbeats 4000000 in
set_option maxRecDepth 100000 in
theorem form_call (vs vf : Value) (hs : Sl encS w vs S) (hf : Sl encI w vf Fr) : Calls Tryd.prog 11 #[vs, vf] w (RightEnd S Fr w) := by
  have HSF := Lib.hid hf
  obtain ⟨ps, cs, rfl, s1, s2, s3⟩ := hs
  obtain ⟨pf, cf, rfl, q1, q2, q3⟩ := hf
  have Q2 := Lib.hid q2
  unfold maxLen at s2 q2
  have HS := Lib.hid s3
  have HF := Lib.hid q3
  clear s3 q3
  by_cases hl : S.length ≤ 128
  · have hbl : ¬ (128 : Int) < (S.length : Int) := by omega
    go_enter Tryd.func11, Tryd.ntmps11
    go_wp2
    go_loopw [14] (fun i wr => ∃ k : Nat, k ≤ Fr.length ∧ i = .int .i64 k ∧ RowKit.Below w.heap.size w wr ∧ P1 S Fr k) (fun i _ => Fr.length - (intOf i).toNat)
    case atStart => exact ⟨0, Nat.zero_le _, rfl, Below.refl _ _, P1_zero S Fr⟩
    case round =>
      obtain ⟨k, hk, rfl, hb, hp⟩ := hrel
      have HB := Lib.hid hb
      have HP := Lib.hid hp
      clear hp hb
      by_cases hkn : k < Fr.length
      · obtain ⟨gf, of, rfl, hgf, cF⟩ := HF.out (by omega)
        have d1 := Bc HB.out hgf (atI cF hkn)
        have hkc : k ≤ cf := by omega
        have ST := Lib.hid (sl_take lenI (w := wr) k hk q1 Q2.out (Bl HB.out hgf) (fun j u hu => Bc HB.out hgf (cF j u hu)))
        clear cF
        by_cases hpl : 0 ≤ Fr[k]! ∧ Fr[k]! < S.length
        · obtain ⟨n, hn⟩ : ∃ n : Nat, Fr[k]! = n := ⟨(Fr[k]!).toNat, by omega⟩
          rw [hn] at d1
          have hn1 : n < S.length := by omega
          have HN := Lib.hid hn
          clear hpl hn
          obtain ⟨gs, os, rfl, hgs, cS⟩ := HS.out (by omega)
          have d2 := Bc HB.out hgs (atS cS hn1).2
          have hn0 : ¬ (n : Int) < 0 := by omega
          have hn2 : (n : Int) < (S.length : Int) := by omega
          have hn3 : ¬ (S.length : Int) ≤ (n : Int) := by omega
          clear cS
          cases hv : S[n]!.2 with
          | true =>
            have HX := Lib.hid (P1_live hkn HN.out hv)
            rw [hv] at d2
            clear hv
            go_wp2
            go_ret
            exact right_no HX.out HB.out
          | false =>
            rw [hv] at d2
            have C := in_call (Fr.take k) _ n wr ST.out
            by_cases hin : (n : Int) ∈ Fr.take k
            · have HX := Lib.hid (P1_twice (S := S) hkn HN.out hin)
              rw [decide_eq_true hin] at C
              have HC := Lib.hid C
              clear hin hv C
              go_wp2_with fail
              refine HC.out.mono ?_
              rintro e w1 ⟨rfl, hg1⟩
              have B1 := Lib.hid (Bt HB.out hg1.below)
              clear hg1
              go_wp2
              go_ret
              exact right_no HX.out B1.out
            · have HX := Lib.hid (P1_next HP.out hkn HN.out hn1 hv hin)
              rw [decide_eq_false hin] at C
              have HC := Lib.hid C
              clear hin hv C
              go_wp2_with fail
              refine HC.out.mono ?_
              rintro e w1 ⟨rfl, hg1⟩
              have B1 := Lib.hid (Bt HB.out hg1.below)
              clear hg1
              go_wp2
              go_roundw
              case measure => simp [intOf]; omega
              case rel => exact ⟨k + 1, by omega, by go_num, B1.out, HX.out⟩
        · have HX := Lib.hid (P1_place hkn hpl)
          generalize Fr[k]! = i at *
          by_cases hi0 : i < 0
          · clear hpl
            go_wp2
            go_ret
            exact right_no HX.out HB.out
          · have hi1 : (S.length : Int) ≤ i := by omega
            clear hpl
            go_wp2
            go_ret
            exact right_no HX.out HB.out
      · have hkn' : k = Fr.length := by omega
        subst hkn'
        go_wp2
        obtain ⟨w2, rfl⟩ : ∃ w2 : World, w2 = wr := ⟨_, rfl⟩
        go_loopw [44] (fun i wr => ∃ k : Nat, k ≤ S.length ∧ i = .int .i64 k ∧ RowKit.Below w2.heap.size w2 wr ∧ P2 S Fr k) (fun i _ => S.length - (intOf i).toNat)
        case atStart => exact ⟨0, Nat.zero_le _, rfl, Below.refl _ _, fun j hj => absurd hj (Nat.not_lt_zero j)⟩
        case round =>
          obtain ⟨k, hk2, rfl, hb2, hp2⟩ := hrel
          have HB2 := Lib.hid hb2
          have HW := Lib.hid (Bt HB.out hb2)
          have HP2 := Lib.hid hp2
          clear hb2 hp2
          by_cases hks : k < S.length
          · obtain ⟨gs, os, rfl, hgs, cS⟩ := HS.out (by omega)
            obtain ⟨d1, d2⟩ := atS cS hks
            replace d1 := Bc HW.out hgs d1
            replace d2 := Bc HW.out hgs d2
            have HGEN := Lib.hid (fun h => P2_gen (Fr := Fr) hks h)
            have HFREE := Lib.hid (fun a b h => P2_free (Fr := Fr) hks a b h)
            have HNEXT := Lib.hid (fun a b h => P2_next HP2.out (k := k) a b h)
            have HBL := Lib.hid (fun (x : Obj) => Ba HW.out x)
            have HBL2 := Lib.hid (fun (x : Obj) => Ba HB2.out x)
            clear cS
            generalize S[k]!.1 = g at *
            generalize S[k]!.2 = lv at *
            by_cases hg1 : g < 1
            · go_wp2
              go_ret
              exact right_no (HGEN.out (by omega)) (HBL.out _)
            · by_cases hg2 : 1073741824 < g
              · go_wp2
                go_ret
                exact right_no (HGEN.out (by omega)) (HBL.out _)
              · cases lv with
                | true =>
                  go_wp2
                  go_roundw
                  case measure => simp [intOf]; omega
                  case rel => exact ⟨k + 1, by omega, by go_num, HBL2.out _, HNEXT.out (by omega) (by omega) (fun e => by cases e)⟩
                | false =>
                  by_cases hg3 : g < 1073741824
                  · have C := in_call Fr _ k (wr.alloc (.cells #[.int .i64 g, .bool false] 63)) (HSF.out.below (HBL.out _))
                    by_cases hin : (k : Int) ∈ Fr
                    · rw [decide_eq_true hin] at C
                      have HC := Lib.hid C
                      have HIN := Lib.hid hin
                      clear hin C
                      go_wp2_with fail
                      refine HC.out.mono ?_
                      rintro e w1 ⟨rfl, hg1'⟩
                      have B1 := Lib.hid (Bt (HBL2.out _) hg1'.below)
                      clear hg1'
                      go_wp2
                      go_roundw
                      case measure => simp [intOf]; omega
                      case rel => exact ⟨k + 1, by omega, by go_num, B1.out, HNEXT.out (by omega) (by omega) (fun _ _ => HIN.out)⟩
                    · rw [decide_eq_false hin] at C
                      have HC := Lib.hid C
                      have HIN := Lib.hid hin
                      clear hin C
                      go_wp2_with fail
                      refine HC.out.mono ?_
                      rintro e w1 ⟨rfl, hg1'⟩
                      have B1 := Lib.hid (Bt (HBL.out _) hg1'.below)
                      clear hg1'
                      go_wp2
                      go_ret
                      exact right_no (HFREE.out (by trivial) hg3 HIN.out) B1.out
                  · go_wp2
                    go_roundw
                    case measure => simp [intOf]; omega
                    case rel => exact ⟨k + 1, by omega, by go_num, HBL2.out _, HNEXT.out (by omega) (by omega) (fun _ h => absurd h hg3)⟩
          · have hks' : k = S.length := by omega
            subst hks'
            go_wp2
            go_ret
            exact right_yes (right_of hl HP.out HP2.out) HW.out
  · have hbl : (128 : Int) < (S.length : Int) := by omega
    have HX := Lib.hid (show ¬ Right S Fr from fun r => hl r.len)
    clear hl
    go_enter Tryd.func11, Tryd.ntmps11
    go_wp2
    go_ret
    exact right_no HX.out (Below.refl _ _)
end
end Go.Proofs.YthodmicoejnfaaaDoor
