/-
  right, walked: whatever slots and free places, it answers whether they are a pool's; From.
-/
import Derived.Test.YthodmicoejnfaaaDoorHi
namespace Go.Proofs.YthodmicoejnfaaaDoor
set_option linter.unusedSimpArgs false
set_option linter.unusedVariables false
open Go.RowKit Go.Sort Go.Lib Go.Shelf

section
variable {S : List Slt} {Fr : List Int} {w : World}

theorem bool_no {b : Bool} {p : Prop} (h : b = true ↔ p) (hp : ¬ p) : b = false := by
  cases b
  · rfl
  · exact absurd (h.1 rfl) hp
/-- What right answers. -/
def RightEnd (S : List Slt) (Fr : List Int) (w : World) (e : Ending) (w' : World) : Prop := ∃ b, e = .returned (.bool b) ∧ (b = true ↔ Right S Fr) ∧ RowKit.Below w.heap.size w w'
theorem right_no {w' : World} (h : ¬ Right S Fr) (hb : RowKit.Below w.heap.size w w') : RightEnd S Fr w (.returned (.bool false)) w' := ⟨false, rfl, ⟨fun e => absurd e (by decide), fun e => absurd e h⟩, hb⟩
theorem right_yes {w' : World} (h : Right S Fr) (hb : RowKit.Below w.heap.size w w') : RightEnd S Fr w (.returned (.bool true)) w' := ⟨true, rfl, ⟨fun _ => h, fun _ => rfl⟩, hb⟩

set_option maxHeartbeats 4000000 in
set_option maxRecDepth 100000 in
theorem right_call (vs vf : Value) (hs : Sl encS w vs S) (hf : Sl encI w vf Fr) : Calls Tryd.prog 30 #[vs, vf] w (RightEnd S Fr w) := by
  obtain ⟨ps, cs, rfl, s1, s2, s3⟩ := hs
  obtain ⟨pf, cf, rfl, q1, q2, q3⟩ := hf
  unfold maxLen at s2 q2
  have HS := Lib.hid s3
  have HF := Lib.hid q3
  clear s3 q3
  by_cases hl : S.length ≤ 128
  · have hbl : ¬ (128 : Int) < (S.length : Int) := by omega
    have hz : #[.bool false, .bool false, .bool false, .bool false, .bool false, .bool false, .bool false, .bool false, .bool false, .bool false, .bool false, .bool false, .bool false, .bool false, .bool false, .bool false, .bool false, .bool false, .bool false, .bool false, .bool false, .bool false, .bool false, .bool false, .bool false, .bool false, .bool false, .bool false, .bool false, .bool false, .bool false, .bool false, .bool false, .bool false, .bool false, .bool false, .bool false, .bool false, .bool false, .bool false, .bool false, .bool false, .bool false, .bool false, .bool false, .bool false, .bool false, .bool false, .bool false, .bool false, .bool false, .bool false, .bool false, .bool false, .bool false, .bool false, .bool false, .bool false, .bool false, .bool false, .bool false, .bool false, .bool false, .bool false, .bool false, .bool false, .bool false, .bool false, .bool false, .bool false, .bool false, .bool false, .bool false, .bool false, .bool false, .bool false, .bool false, .bool false, .bool false, .bool false, .bool false, .bool false, .bool false, .bool false, .bool false, .bool false, .bool false, .bool false, .bool false, .bool false, .bool false, .bool false, .bool false, .bool false, .bool false, .bool false, .bool false, .bool false, .bool false, .bool false, .bool false, .bool false, .bool false, .bool false, .bool false, .bool false, .bool false, .bool false, .bool false, .bool false, .bool false, .bool false, .bool false, .bool false, .bool false, .bool false, .bool false, .bool false, .bool false, .bool false, .bool false, .bool false, .bool false, .bool false, .bool false, .bool false, .bool false, .bool false] = z128 := z128_eq
    go_enter Tryd.func30, Tryd.ntmps30
    go_wp2
    clear hz
    go_loopw [15] (fun i wr => ∃ k : Nat, k ≤ Fr.length ∧ i = .int .i64 k ∧ RowKit.Below w.heap.size w wr ∧ w.heap.size < wr.heap.size ∧ Marks wr w.heap.size Fr k ∧ P1 S Fr k) (fun i _ => Fr.length - (intOf i).toNat)
    case atStart => exact ⟨0, Nat.zero_le _, rfl, Ba (Below.refl _ _) _, by simp, Marks.zero w _ _ rfl Fr, P1_zero S Fr⟩
    case round =>
      obtain ⟨k, hk, rfl, hb, hsz, hm, hp⟩ := hrel
      have HB := Lib.hid hb
      have HM := Lib.hid hm
      have HP := Lib.hid hp
      clear hm hp
      by_cases hkn : k < Fr.length
      · obtain ⟨gf, of, rfl, hgf, cF⟩ := HF.out (by omega)
        have d1 := Bc hb hgf (atI cF hkn)
        clear cF hb
        by_cases hpl : 0 ≤ Fr[k]! ∧ Fr[k]! < S.length
        · obtain ⟨n, hn⟩ : ∃ n : Nat, Fr[k]! = n := ⟨(Fr[k]!).toNat, by omega⟩
          rw [hn] at d1
          have hn1 : n < S.length := by omega
          have HN := Lib.hid hn
          clear hpl hn
          obtain ⟨gs, os, rfl, hgs, cS⟩ := HS.out (by omega)
          have d2 := Bc HB.out hgs (atS cS hn1).2
          obtain ⟨d3, d4⟩ := HM.out n (by omega)
          have hn0 : (0 : Int) ≤ (n : Int) := by omega
          have hn2 : (n : Int) < (S.length : Int) := by omega
          have hn3 : n < 128 := by omega
          clear cS
          cases hv : S[n]!.2 with
          | true =>
            have HX := Lib.hid (P1_live hkn HN.out hv)
            rw [hv] at d2
            clear hv
            go_wp2_with (go_at_call 39; refine (isPlace_yes _ _ _ _ _ hn0 hn2).mono ?_; rintro e w1 ⟨rfl, rfl⟩)
            go_ret
            exact right_no HX.out HB.out
          | false =>
            rw [hv] at d2
            by_cases hin : (n : Int) ∈ Fr.take k
            · have HX := Lib.hid (P1_twice (S := S) hkn HN.out hin)
              rw [decide_eq_true hin] at d3
              clear hin hv
              go_wp2_with (go_at_call 39; refine (isPlace_yes _ _ _ _ _ hn0 hn2).mono ?_; rintro e w1 ⟨rfl, rfl⟩)
              go_ret
              exact right_no HX.out HB.out
            · have HX := Lib.hid (P1_next HP.out hkn HN.out hn1 hv hin)
              rw [decide_eq_false hin] at d3
              clear hin hv
              have HM2 := Lib.hid (HM.out.next hkn HN.out hn3)
              go_wp2_with (go_at_call 39; refine (isPlace_yes _ _ _ _ _ hn0 hn2).mono ?_; rintro e w1 ⟨rfl, rfl⟩)
              go_roundw
              case measure => simp [intOf]; omega
              case rel => exact ⟨k + 1, by omega, by go_num, Bs HB.out (Nat.le_refl _) _, by simpa using hsz, HM2.out, HX.out⟩
        · have HX := Lib.hid (P1_place hkn hpl)
          have HN := Lib.hid hpl
          clear hpl
          generalize Fr[k]! = i at *
          go_wp2_with (go_at_call 39; refine (isPlace_no _ _ _ _ _ HN.out).mono ?_; rintro e w1 ⟨rfl, rfl⟩)
          go_ret
          exact right_no HX.out HB.out
      · have hkn' : k = Fr.length := by omega
        subst hkn'
        clear hb
        go_wp2
        obtain ⟨w2, rfl⟩ : ∃ w2 : World, w2 = wr := ⟨_, rfl⟩
        go_loopw [40] (fun i wr => ∃ k : Nat, k ≤ S.length ∧ i = .int .i64 k ∧ RowKit.Below w2.heap.size w2 wr ∧ P2 S Fr k) (fun i _ => S.length - (intOf i).toNat)
        case atStart => exact ⟨0, Nat.zero_le _, rfl, Below.refl _ _, fun j hj => absurd hj (Nat.not_lt_zero j)⟩
        case round =>
          obtain ⟨k, hk2, rfl, hb2, hp2⟩ := hrel
          have HB2 := Lib.hid hb2
          have HW := Lib.hid (Bt HB.out hb2)
          have HP2 := Lib.hid hp2
          clear hb2 hp2
          by_cases hks : k < S.length
          · obtain ⟨gs, os, rfl, hgs, cS⟩ := HS.out (by omega)
            have hH2 := Lib.hid (Ba HW.out (.cells #[.int .i64 0, .bool false] 63))
            obtain ⟨d1, d2⟩ := atS cS hks
            replace d1 := Bc HW.out hgs d1
            replace d2 := Bc HW.out hgs d2
            obtain ⟨d3, d4⟩ := (HM.out.below hsz HB2.out) k (by omega)
            rw [List.take_length] at d3
            have hszr : w.heap.size < wr.heap.size := Bl HB2.out hsz
            have hk128 : k < 128 := by omega
            have HGEN := Lib.hid (fun h => P2_gen (Fr := Fr) hks h)
            have HFREE := Lib.hid (fun a b h => P2_free (Fr := Fr) hks a b h)
            have HNEXT := Lib.hid (fun a b h => P2_next HP2.out (k := k) a b h)
            have HBL := Lib.hid (fun (x : Obj) => Ba HW.out x)
            have HBL2 := Lib.hid (fun (x : Obj) => Ba HB2.out x)
            clear cS
            generalize S[k]!.1 = g at *
            generalize S[k]!.2 = lv at *
            by_cases hg1 : g < 1
            · go_wp2
              go_ret
              exact right_no (HGEN.out (by omega)) (HBL.out _)
            · by_cases hg2 : 1073741824 < g
              · go_wp2
                go_ret
                exact right_no (HGEN.out (by omega)) (HBL.out _)
              · cases lv with
                | true =>
                  go_wp2
                  go_roundw
                  case measure => simp [intOf]; omega
                  case rel => exact ⟨k + 1, by omega, by go_num, HBL2.out _, HNEXT.out (by omega) (by omega) (fun e => by cases e)⟩
                | false =>
                  by_cases hin : (k : Int) ∈ Fr
                  · rw [decide_eq_true hin] at d3
                    have HIN := Lib.hid hin
                    clear hin
                    go_wp2
                    go_roundw
                    case measure => simp [intOf]; omega
                    case rel => exact ⟨k + 1, by omega, by go_num, HBL2.out _, HNEXT.out (by omega) (by omega) (fun _ _ => HIN.out)⟩
                  · rw [decide_eq_false hin] at d3
                    have HIN := Lib.hid hin
                    clear hin
                    by_cases hg3 : g < 1073741824
                    · go_wp2
                      go_ret
                      exact right_no (HFREE.out (by trivial) hg3 HIN.out) (HBL.out _)
                    · go_wp2
                      go_roundw
                      case measure => simp [intOf]; omega
                      case rel => exact ⟨k + 1, by omega, by go_num, HBL2.out _, HNEXT.out (by omega) (by omega) (fun _ h => absurd h hg3)⟩
          · have hks' : k = S.length := by omega
            subst hks'
            go_wp2
            go_ret
            exact right_yes (right_of hl HP.out HP2.out) HW.out
  · have hbl : (128 : Int) < (S.length : Int) := by omega
    have HX := Lib.hid (show ¬ Right S Fr from fun r => hl r.len)
    clear hl
    go_enter Tryd.func30, Tryd.ntmps30
    go_wp2
    go_ret
    exact right_no HX.out (Below.refl _ _)

/-- From: the pool, in new blocks. -/
theorem from_yes (vs vf : Value) (hs : Sl encS w vs S) (hf : Sl encI w vf Fr) (r : Right S Fr) : Calls Tryd.prog 10 #[vs, vf] w fun e w' => ∃ pb, e = .returned (.tuple #[.pointer (some ⟨pb, 0, none⟩), .nilIface]) ∧ PoolAt 67 w' (Fresh w w') pb S Fr ∧ RowKit.Below w.heap.size w w' := by
  have hR := Lib.hid (right_call vs vf hs hf)
  have hl := r.len
  have hl2 := r.freeLen
  have HR := Lib.hid r
  have S1 := Lib.hid (fun W (h : RowKit.Below w.heap.size w W) => cloneS_call S _ W (hs.below h) (by omega))
  have S2 := Lib.hid (fun W (h : RowKit.Below w.heap.size w W) => cloneI_call Fr _ W (hf.below h) (by omega))
  clear hs hf r
  go_enter Tryd.func10, Tryd.ntmps10
  go_wp2_with (first | (go_at_call 30; refine hR.out.mono ?_; rintro e w1 ⟨b, rfl, hb, hb1⟩; obtain rfl : b = true := hb.2 HR.out; have B1 := Lib.hid hb1; clear hb hb1) | (go_at_call 31; refine (S1.out _ B1.out).mono ?_; rintro e w2 ⟨v1, rfl, ho1, hb2⟩; obtain ⟨p1, c1, rfl, _, _, _⟩ := row_val ho1; have X1 := Lib.hid (row_mono ho1 B1.out.size); have B2 := Lib.hid (Bt B1.out hb2); clear ho1 hb2) | (go_at_call 32; refine (S2.out _ B2.out).mono ?_; rintro e w3 ⟨v2, rfl, ho2, hb3⟩; obtain ⟨p2, c2, rfl, _, _, _⟩ := row_val ho2; have X2 := Lib.hid (pool_made (Bt B2.out hb3) (row_below X1.out hb3) (row_mono ho2 B2.out.size) 67); have B3 := Lib.hid (Bt B2.out hb3); clear ho2 hb3))
  go_ret2
  exact ⟨_, rfl, X2.out.at, Ba B3.out _⟩
theorem from_no (vs vf : Value) (hs : Sl encS w vs S) (hf : Sl encI w vf Fr) (r : ¬ Right S Fr) (t : TypeId) (v : Value) (hE : w.cell? ⟨0, 0, none⟩ = some (.iface t v)) : Calls Tryd.prog 10 #[vs, vf] w fun e w' => e = .returned (.tuple #[.pointer none, .iface t v]) ∧ RowKit.Below w.heap.size w w' := by
  have hR := Lib.hid (right_call vs vf hs hf)
  have HR := Lib.hid r
  clear hs hf r
  go_enter Tryd.func10, Tryd.ntmps10
  go_wp2_with (go_at_call 30; refine hR.out.mono ?_; rintro e w1 ⟨b, rfl, hb, hb1⟩; obtain rfl : b = false := bool_no hb HR.out; have x1 := Bc hb1 (cell_lt hE) hE; have B1 := Lib.hid hb1; clear hb hb1)
  go_quiet (fail)
  go_wp2
  go_ret2
  exact ⟨rfl, Bn B1.out⟩
end
end Go.Proofs.YthodmicoejnfaaaDoor
