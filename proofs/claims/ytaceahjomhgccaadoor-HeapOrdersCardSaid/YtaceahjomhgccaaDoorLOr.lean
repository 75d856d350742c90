/-
  The walk of HeapOrders.
-/
import Derived.Test.YtaceahjomhgccaaDoorLSo
namespace Go.Proofs.YtaceahjomhgccaaDoor
set_option linter.unusedSimpArgs false
set_option linter.unusedVariables false
open Go.RowKit Go.Sort Go.Lib Go.Shelf

theorem puts_turned (l : List Hd) (k : Nat) : putsL ltH [] (l.drop k ++ l.take k) = putsL ltH [] l := by
  refine sorted_uniq sto_hd _ _ (putsL_sorted sto_hd [] _ List.Pairwise.nil) (putsL_sorted sto_hd [] l List.Pairwise.nil) ?_
  refine (putsL_perm [] _).trans (List.Perm.trans ?_ (putsL_perm [] l).symm)
  simp only [List.nil_append]
  refine List.perm_append_comm.trans ?_
  rw [List.take_append_drop]

set_option maxHeartbeats 4000000 in
set_option maxRecDepth 100000 in
theorem heapOrders_walk (l : List Hd) (v : Value) (x : Int) (W : World) (hv : Sl encH W v l) :
    Calls Tryd.prog 7 #[v, .int .i64 x] W fun e w' => e = .returned (.bool true) ∧ RowKit.Below W.heap.size W w' := by
  have HS := Lib.hid hv
  obtain ⟨p0, c0, rfl, v1, v2, v3⟩ := hv
  unfold maxLen at v2
  have HV := Lib.hid v3
  have AL := Lib.hid (alive_any W)
  clear v3
  by_cases h0 : l.length < 1
  case pos =>
    have hz : (l.length : Int) < 1 := by omega
    go_enter Tryd.func7, Tryd.ntmps7
    go_wp2_with fail
    refine AL.out.mono ?_
    rintro e w1 ⟨rfl, hb1⟩
    go_wp2
    go_ret
    exact ⟨rfl, hb1⟩
  have hz0 : ¬ (l.length : Int) < 1 := by omega
  by_cases h1 : l.length ≤ 100
  case neg =>
    have hz : (l.length : Int) > 100 := by omega
    go_enter Tryd.func7, Tryd.ntmps7
    go_wp2_with fail
    refine AL.out.mono ?_
    rintro e w1 ⟨rfl, hb1⟩
    go_wp2
    go_ret
    exact ⟨rfl, hb1⟩
  have hz : ¬ (l.length : Int) > 100 := by omega
  obtain ⟨k, hk, he⟩ := idx_any x l.length (by omega) (by omega)
  have HK := Lib.hid hk
  have hz2 : ¬ (l.length : Int) = 0 := by omega
  have hz1 : ¬ l = [] := fun e => by subst e; simp at h0
  have hul : IntKind.u64.wrap (l.length : Int) = l.length := by rw [IntKind.wrap_u64]; omega
  go_enter Tryd.func7, Tryd.ntmps7
  go_wp2_with fail
  refine AL.out.mono ?_
  rintro e w1 ⟨rfl, hb1⟩
  have B1 := Lib.hid hb1
  clear hb1 AL
  go_wp2_with fail
  refine (hsort_call l _ _ (HS.out.below B1.out) (by omega)).mono ?_
  rintro e w2 ⟨va, rfl, hoa, hb2⟩
  have B2 := Lib.hid (Bt B1.out hb2)
  have SA := Lib.hid (hoa.sl lenH)
  clear hoa hb2 B1 hul
  have hkc : ¬ c0 = k := by have := HK.out; omega
  have hk1 : k ≤ l.length := by omega
  have hk2 : k ≤ c0 := by omega
  obtain ⟨g, o, rfl, hg, hcs⟩ := HV.out (by omega)
  have SLT := Lib.hid (fun w (hb : RowKit.Below W.heap.size W w) => sl_take lenH (w := w) (g := g) (o := o) (cap := c0) (l := l) k hk1 v1 (show c0 ≤ maxLen by unfold maxLen; exact v2) (Bl hb hg) (fun j u hu => Bc hb hg (hcs j u hu)))
  have SLD := Lib.hid (fun w (hb : RowKit.Below W.heap.size W w) => sl_drop lenH (w := w) (g := g) (o := o) (cap := c0) (l := l) k hk1 v1 (show c0 ≤ maxLen by unfold maxLen; exact v2) (Bl hb hg) (fun j u hu => Bc hb hg (hcs j u hu)))
  have A3 := Lib.hid (Ba (Bd (Below.refl _ w2)) (.cells #[] 35))
  have O3 := Lib.hid (show (w2.drew.alloc (.cells #[] 35)).ownsRow w2.heap.size 35 2 (.slice (some ⟨w2.heap.size, 0, none⟩) 0 0) 0 (flat encH ([] : List Hd)) from World.ownsRow_made _ #[] 0 (Nat.le_refl _) (Nat.zero_le _) (by simp))
  clear hcs
  go_wp2_with fail
  go_region_held3 (fun _ => True) (trivial) (first
    | (refine step_app2 apH rfl (.tmp 34) (.tmp 37) rfl w2.heap.size (by rfl) (by rfl) O3.out rfl (SLD.out _ (Bt B2.out A3.out)) (by simp; omega) A3.out.size ?_; intro v4 w4 hown4 hgrow4 _ _; rw [List.nil_append] at hown4; have B4 := Lib.hid (grownB A3.out O3.out hgrow4); have O4 := Lib.hid hown4; clear hown4 hgrow4)
    | (refine step_app2 apH rfl (.tmp 38) (.tmp 41) rfl w2.heap.size (by rfl) (by rfl) O4.out rfl (SLT.out _ (Bt B2.out B4.out)) (by simp; omega) B4.out.size ?_; intro v5 w5 hown5 hgrow5 _ _; have B5 := Lib.hid (grownB B4.out O4.out hgrow5); have S5 := Lib.hid (row_sl lenH hown5 rfl); clear hown5 hgrow5)
    | (go_at_call 17; refine (hsort_call (l.drop k ++ l.take k) _ _ S5.out (by simp; omega)).mono ?_; rintro e w6 ⟨vb, rfl, hob, hb6⟩; have SB := Lib.hid (hob.sl lenH); have B6 := Lib.hid (Bt B5.out hb6); clear hob hb6))
  all_goals
    rw [puts_turned] at SB
    have hlS := puts_len l
    obtain ⟨S, hSS⟩ : ∃ S, S = putsL ltH [] l := ⟨_, rfl⟩
    rw [← hSS] at SA SB hlS
    have SA6 := Lib.hid (SA.out.below B6.out)
    have BW := Lib.hid (Bt B2.out B6.out)
    obtain ⟨pm, cm, rfl, m1, m2, mX⟩ := SA6.out
    obtain ⟨pq, cq, rfl, m3, m4, qX⟩ := SB.out
    unfold maxLen at m2 m4
    have MX := Lib.hid mX
    have QX := Lib.hid qX
    have eq2 := eqH_run
    have ne2 := neH_run
    have gd2 := gdH_run
    clear mX qX SA SB SA6 hSS SLT SLD O3 A3 O4 B4 S5 B5 B6 B2 HV HS he
    generalize l.length = n at *
    subst hlS
    go_wp2_with fail
    go_loopw [61] (fun i wr => ∃ (k : Nat), i = .int .i64 k ∧ k ≤ S.length ∧ Hid (RowKit.Below w6.heap.size w6 wr)) (fun i _ => S.length - (intOf i).toNat)
    case atStart => exact ⟨0, rfl, Nat.zero_le _, Lib.hid (Below.refl _ _)⟩
    case round =>
      obtain ⟨j, rfl, hj, HB2⟩ := hrel
      by_cases hkn : j < S.length
      · have hkz : (j : Int) < S.length := by omega
        obtain ⟨g0, o0, rfl, hg0, hc0⟩ := MX.out (by omega)
        obtain ⟨g1, o1, rfl, hg1, hc1⟩ := QX.out (by omega)
        obtain ⟨d1, d2⟩ := atH (fun j u hu => Bc HB2.out hg0 (hc0 j u hu)) hkn
        obtain ⟨f1, f2⟩ := atH (fun j u hu => Bc HB2.out hg1 (hc1 j u hu)) hkn
        generalize S[j]! = y at *
        obtain ⟨y1, y2⟩ := y
        dsimp only at d1 d2 f1 f2
        have hd : decide (((y1, y2) : Hd) = (y1, y2)) = true := decide_eq_true rfl
        clear hc0 hc1
        go_wp2_with fail
        go_region
        all_goals
          go_wp2
          go_roundw
          case rel => exact ⟨j + 1, by go_num, by omega, Lib.hid (Bt HB2.out (Bd (Below.refl _ _)))⟩
          case measure => simp [intOf]; omega
      · have hkz : ¬ (j : Int) < S.length := by omega
        go_wp2
        go_ret
        exact ⟨rfl, Bt BW.out HB2.out⟩
end Go.Proofs.YtaceahjomhgccaaDoor
