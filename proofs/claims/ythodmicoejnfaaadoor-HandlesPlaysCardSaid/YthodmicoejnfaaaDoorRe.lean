/-
  The reference's List, Same, Copy.
-/
import Derived.Test.YthodmicoejnfaaaDoorRd
namespace Go.Proofs.YthodmicoejnfaaaDoor
set_option linter.unusedSimpArgs false
set_option linter.unusedVariables false
open Go.RowKit Go.Sort Go.Lib Go.Shelf

section
variable {T pa : Nat} {S : List Slt} {Fr : List Int} {M : Nat → Prop} {w : World}

set_option maxHeartbeats 2000000 in
set_option maxRecDepth 100000 in
theorem rlist_call (hp : PoolAt 37 w M pa S Fr) (hlen : S.length ≤ 1000) :
    Calls Tryd.prog 20 #[.pointer (some ⟨pa, 0, none⟩)] w fun e w' => ∃ v, e = .returned v ∧ w'.ownsRow w.heap.size 40 2 v (listP S).length (flat encH (listP S)) ∧ RowKit.Below w.heap.size w w' := by
  obtain ⟨ps, cs, pf, cf, c0, c1, f0, f1, hl, a1, a2, b1, b2, hS, _, _, _⟩ := pool_open hp
  clear hp
  go_enter Tryd.func20, Tryd.ntmps20
  go_wp2
  go_loopw [3, 12] (fun v i wr => ∃ k : Nat, k ≤ S.length ∧ i = .int .i64 k ∧ RowKit.Below w.heap.size w wr ∧ wr.ownsRow w.heap.size 40 2 v (listN S k).length (flat encH (listN S k))) (fun _ i _ => S.length - (intOf i).toNat)
  case atStart => exact ⟨0, Nat.zero_le _, rfl, Ba (Below.refl _ _) _, by rw [listN_zero]; exact World.ownsRow_lit w #[] 0 (Nat.le_refl _) (Nat.zero_le _) rfl⟩
  case round =>
    obtain ⟨k, hk, rfl, hb, hown⟩ := hrel
    have HB := Lib.hid hb
    have HO := Lib.hid hown
    by_cases hkn : k < S.length
    · obtain ⟨gs, rfl, hgs, cS⟩ := hS.out (by omega)
      obtain ⟨d1, d2⟩ := cS k hkn
      replace d1 := Bc hb hgs d1
      replace d2 := Bc hb hgs d2
      clear hb hown cS
      have hll := listN_len S k
      cases hv : S[k]!.2 with
      | true =>
        rw [hv] at d2
        have HL := Lib.hid (listN_yes S k hv)
        generalize S[k]!.1 = gen at d1 HL
        clear hv
        have B2 := Lib.hid (Ba (Ba (Below.refl _ wr) (.cells #[.int .i64 gen, .bool true] 63)) (.cells #[.int .i64 k, .int .i64 gen] 40))
        have O2 := Lib.hid (row_below HO.out B2.out)
        have S2 := Lib.hid (sl_lit (enc := encH) (w := wr.alloc (.cells #[.int .i64 gen, .bool true] 63)) (cs := #[.int .i64 k, .int .i64 gen]) (t := 40) (b := wr.heap.size + 1) [((k : Int), gen)] (by simp) rfl (by unfold maxLen; simp))
        have Z2 := Lib.hid (show w.heap.size ≤ ((wr.alloc (.cells #[.int .i64 gen, .bool true] 63)).alloc (.cells #[.int .i64 k, .int .i64 gen] 40)).heap.size from Nat.le_trans HB.out.size B2.out.size)
        have HBB := Lib.hid (Bt HB.out B2.out)
        go_wp2_with (at_builtin; refine wpl_app2 apH rfl _ _ rfl w.heap.size (by rfl) (by rfl) O2.out rfl S2.out (by simp; omega) Z2.out ?_; intro v4 w4 hown4 hgrow4 hat4 _; have B4 := Lib.hid (grownB HBB.out O2.out hgrow4); have O4 := Lib.hid hown4; clear hown4 hgrow4 hat4)
        go_roundw
        case measure => simp [intOf]; omega
        case rel => exact ⟨k + 1, by omega, by go_num, B4.out, by rw [HL.out]; exact O4.out⟩
      | false =>
        rw [hv] at d2
        have HL := Lib.hid (listN_no S k hv)
        generalize S[k]!.1 = gen at d1
        clear hv
        have HBB := Lib.hid (Ba HB.out (.cells #[.int .i64 gen, .bool false] 63))
        have O2 := Lib.hid (row_below HO.out (Ba (Below.refl _ wr) (.cells #[.int .i64 gen, .bool false] 63)))
        go_wp2
        go_roundw
        case measure => simp [intOf]; omega
        case rel => exact ⟨k + 1, by omega, by go_num, HBB.out, by rw [HL.out]; exact O2.out⟩
    · have hkn' : k = S.length := by omega
      clear hb hown
      go_wp2
      go_ret
      exact ⟨_, rfl, by rw [listP, ← hkn']; exact HO.out, HB.out⟩

set_option maxHeartbeats 2000000 in
set_option maxRecDepth 100000 in
theorem rsame_call (hp : PoolAt 37 w M pa S Fr) (v1 v2 : Value) (h1 : Sl encS w v1 S) (h2 : Sl encI w v2 Fr) :
    Calls Tryd.prog 25 #[.pointer (some ⟨pa, 0, none⟩), v1, v2] w fun e w' => e = .returned (.bool true) ∧ RowKit.Below w.heap.size w w' := by
  obtain ⟨ps, cs, pf, cf, c0, c1, f0, f1, hl, a1, a2, b1, b2, hS, _, _, s2⟩ := pool_open hp
  obtain ⟨p1, k1, rfl, r1, r2, r3⟩ := h1
  unfold maxLen at r2
  have H1 := Lib.hid r3
  have HI := Lib.hid (fun W (h : RowKit.Below w.heap.size w W) => sameInts_call Fr Fr v2 _ W (h2.below h) (s2.below h))
  clear hp r3 h2 s2
  have ne1 := neS_run
  have gd1 := gdS_run
  go_enter Tryd.func25, Tryd.ntmps25
  go_wp2
  go_loopw [18] (fun i wr => ∃ k : Nat, k ≤ S.length ∧ i = .int .i64 k ∧ RowKit.Below w.heap.size w wr) (fun i _ => S.length - (intOf i).toNat)
  case atStart => exact ⟨0, Nat.zero_le _, rfl, Below.refl _ _⟩
  case round =>
    obtain ⟨k, hk, rfl, hb⟩ := hrel
    have HB := Lib.hid hb
    have x0 := Bc hb hl c0
    have x1 := Bc hb hl c1
    clear hb
    by_cases hkn : k < S.length
    · obtain ⟨g1, o1, rfl, hg1, d1⟩ := H1.out (by omega)
      obtain ⟨gs, rfl, hgs, cS⟩ := hS.out (by omega)
      obtain ⟨y0, y1⟩ := cS k hkn
      obtain ⟨y2, y3⟩ := atS d1 hkn
      replace y0 := Bc HB.out hgs y0
      replace y1 := Bc HB.out hgs y1
      replace y2 := Bc HB.out hg1 y2
      replace y3 := Bc HB.out hg1 y3
      clear d1 cS
      generalize S[k]! = x at y0 y1 y2 y3
      obtain ⟨s1, s2⟩ := x
      dsimp only at y0 y1 y2 y3
      go_wp2_with fail
      go_quiet (fail)
      go_wp2
      go_roundw
      case measure => simp [intOf]; omega
      case rel => exact ⟨k + 1, by omega, by go_num, Bn HB.out⟩
    · go_wp2_with fail
      refine (HI.out _ HB.out).mono ?_
      rintro e w1 ⟨rfl, hg1⟩
      have B1 := Lib.hid (Bt HB.out hg1.below)
      clear hg1
      go_wp2
      go_ret
      exact ⟨rfl, B1.out⟩
end
end Go.Proofs.YthodmicoejnfaaaDoor
