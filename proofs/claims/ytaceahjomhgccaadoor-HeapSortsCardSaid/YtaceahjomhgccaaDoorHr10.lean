/-
  Package heap's calls at a heap in memory: rise, sink.
-/
import Derived.Test.YtaceahjomhgccaaDoorHq10
namespace Go.Proofs.YtaceahjomhgccaaDoor
set_option linter.unusedSimpArgs false
set_option linter.unusedVariables false
open Go.RowKit Go.Sort Go.Lib Go.Shelf

section
variable {pa : Nat} {L : List Hd} {M : Nat → Prop} {w : World}
set_option maxHeartbeats 1000000 in
set_option maxRecDepth 100000 in
theorem rise_call (hp : HpAt w M pa L) (i : Nat) (hi : i < L.length) (hm : L.length ≤ 1000000) : Calls Tryd.prog 18 #[.pointer (some ⟨pa, 0, none⟩), .int .i64 i] w fun e w' => e = .returned (.tuple #[]) ∧ HpAt w' M pa (riseL ltH L i) ∧ Tch M w w' := by
  obtain ⟨R, hR⟩ : ∃ R, R = riseL ltH L i := ⟨_, rfl⟩
  rw [← hR]
  go_enter Tryd.func18, Tryd.ntmps18
  go_wp2
  go_loopw [1] (fun v wr => ∃ (j : Nat) (L' : List Hd), v = .int .i64 j ∧ j < L'.length ∧ L'.length ≤ 1000000 ∧ HpAt wr M pa L' ∧ Tch M w wr ∧ Hid (R = riseL ltH L' j)) (fun v _ => (intOf v).toNat)
  case atStart => exact ⟨i, L, rfl, hi, hm, hp, Tch.refl _ _, Lib.hid hR⟩
  case round =>
    clear hp hi hm hR
    obtain ⟨j, L', rfl, hj, hn, hP, hT, hE⟩ := hrel
    have HP := Lib.hid hP
    have HT := Lib.hid hT
    clear hP hT
    by_cases h0 : 0 < j
    · obtain ⟨q, hq⟩ : ∃ q, j = q + 1 := ⟨j - 1, by omega⟩
      obtain ⟨u, hu⟩ : ∃ u, u = q / 2 := ⟨_, rfl⟩
      have e1 : (j : Int) - 1 = (q : Int) := by omega
      have e2 : (q : Int) / 2 = (u : Int) := by rw [hu]; rfl
      have huj : u < j := by omega
      have A := Lib.hid (fun W (h : RowKit.Below wr.heap.size wr W) => ahead_call (HP.out.below h) j u hj (by omega))
      have hup : (j - 1) / 2 = u := by omega
      have HU := Lib.hid hup
      have J1 : j ≤ 1000000 := by omega
      have Q1 : q ≤ 1000000 := by omega
      cases hb : ltH L'[j]! L'[u]! with
      | false =>
        have hS := Lib.hid (riseL_stay (lt := ltH) (l := L') (i := j) h0 (by rw [hup]; exact hb))
        rw [hb] at A
        clear hb hup hq hu
        go_wp2_with fail
        refine (A.out _ (Below.refl _ _)).mono ?_
        rintro e w1 ⟨rfl, hg1⟩
        go_wp2
        refine bodyPost_ret (results_none rfl _ _ _) rfl ?_
        exact ⟨rfl, by rw [hE.out, hS.out]; exact HP.out.below hg1.below, HT.out.bel hg1.below⟩
      | true =>
        have hS := Lib.hid (riseL_up (lt := ltH) (l := L') (i := j) h0 (by rw [hup]; exact hb))
        rw [hb] at A
        rw [hup] at hS
        have B := Lib.hid (fun W (h : RowKit.Below wr.heap.size wr W) => swap_call (HP.out.below h) j u hj (by omega) (by omega))
        clear hb hup hq hu
        go_wp2_with fail
        refine (A.out _ (Below.refl _ _)).mono ?_
        rintro e w1 ⟨rfl, hg1⟩
        have G1 := Lib.hid hg1.below
        clear hg1
        go_wp2_with fail
        refine (B.out _ G1.out).mono ?_
        rintro e w2 ⟨rfl, hp2, ht2⟩
        have P2 := Lib.hid hp2
        have T2 := Lib.hid ((HT.out.bel G1.out).more ht2)
        clear hp2 ht2
        go_wp2
        go_roundw
        case rel => exact ⟨u, swapL L' j u, by go_num, by rw [swapL_len]; omega, by rw [swapL_len]; exact hn, P2.out, T2.out, Lib.hid (by rw [hE.out, ← hS.out])⟩
        case measure => simp [intOf]; omega
    · obtain rfl : j = 0 := by omega
      have e : R = L' := hE.out.trans (riseL_zero _)
      subst e
      go_wp2
      go_end0
      exact ⟨rfl, HP.out, HT.out⟩

/-- The first of the places i and those below it that lie ahead of place b. -/
def fAt (L : List Hd) (i b : Nat) : Nat := if b = 2 * i + 1 then i else if b = 2 * i + 2 then leftL ltH L i else firstL ltH L i
theorem fAt_0 (L : List Hd) (i : Nat) : fAt L i (2 * i + 1) = i := by simp [fAt]
theorem leftL_le (L : List Hd) (i : Nat) (hn : 2 * i + 1 < L.length) : leftL ltH L i < L.length := by unfold leftL; split <;> omega
theorem fAt_lt (L : List Hd) (i b : Nat) (h1 : 2 * i + 1 ≤ b) (hb : b ≤ 2 * i + 2) (hn : b < L.length) : fAt L i b < L.length := by
  unfold fAt
  split
  · omega
  · split
    · exact leftL_le L i (by omega)
    · omega
theorem fAt_step (L : List Hd) (i b : Nat) (h1 : 2 * i + 1 ≤ b) (h2 : b ≤ 2 * i + 2) (hb : b < L.length) : fAt L i (b + 1) = if ltH L[b]! L[fAt L i b]! = true then b else fAt L i b := by
  unfold fAt
  by_cases e : b = 2 * i + 1
  · subst e
    simp only [if_true, if_neg (by omega : ¬ 2 * i + 1 + 1 = 2 * i + 1)]
    unfold leftL
    by_cases c : ltH L[2 * i + 1]! L[i]! = true
    · rw [if_pos ⟨hb, c⟩, if_pos c]
    · rw [if_neg (fun k => c k.2), if_neg c]
  · obtain rfl : b = 2 * i + 2 := by omega
    simp only [if_true, if_neg (by omega : ¬ 2 * i + 2 + 1 = 2 * i + 1), if_neg (by omega : ¬ 2 * i + 2 + 1 = 2 * i + 2), if_neg (by omega : ¬ 2 * i + 2 = 2 * i + 1)]
    unfold firstL
    by_cases c : ltH L[2 * i + 2]! L[leftL ltH L i]! = true
    · rw [if_pos ⟨hb, c⟩, if_pos c]
    · rw [if_neg (fun k => c k.2), if_neg c]
theorem fAt_end (L : List Hd) (i b : Nat) (h1 : 2 * i + 1 ≤ b) (h2 : b ≤ 2 * i + 3) (hb : ¬ b < min (2 * i + 3) L.length) : fAt L i b = firstL ltH L i := by
  unfold fAt firstL leftL
  repeat' split
  all_goals first | rfl | omega

set_option maxHeartbeats 1000000 in
set_option maxRecDepth 100000 in
theorem sink_call (hp : HpAt w M pa L) (i : Nat) (hi : i ≤ L.length) (hm : L.length ≤ 1000000) : Calls Tryd.prog 20 #[.pointer (some ⟨pa, 0, none⟩), .int .i64 i] w fun e w' => e = .returned (.tuple #[]) ∧ HpAt w' M pa (sinkL ltH L i) ∧ Tch M w w' := by
  obtain ⟨R, hR⟩ : ∃ R, R = sinkL ltH L i := ⟨_, rfl⟩
  rw [← hR]
  obtain ⟨n, hn⟩ : ∃ n, n = L.length := ⟨_, rfl⟩
  go_enter Tryd.func20, Tryd.ntmps20
  go_wp2
  go_loopw [1] (fun v wr => ∃ (j : Nat) (L' : List Hd), v = .int .i64 j ∧ j ≤ n ∧ n ≤ 1000000 ∧ Hid (L'.length = n) ∧ HpAt wr M pa L' ∧ Tch M w wr ∧ Hid (R = sinkL ltH L' j)) (fun v _ => n - (intOf v).toNat)
  case atStart => exact ⟨i, L, rfl, by omega, by omega, Lib.hid hn.symm, hp, Tch.refl _ _, Lib.hid hR⟩
  case round =>
    clear hp hi hm hR hn
    obtain ⟨j, L', rfl, hj, hn, hl, hP, hT, hE⟩ := hrel
    have HP := Lib.hid hP
    have HT := Lib.hid hT
    clear hP hT
    have e1 : IntKind.i64.wrap (2 * (j : Int)) = 2 * (j : Int) := IntWalk.i64_in _ (by omega)
    generalize wr = wo at *
    go_wp2
    go_loopw [4, 6] (fun s4 s6 wr => ∃ (b f : Nat), s6 = .int .i64 b ∧ s4 = .int .i64 f ∧ 2 * j + 1 ≤ b ∧ b ≤ 2 * j + 3 ∧ Hid (f = fAt L' j b) ∧ HpAt wr M pa L' ∧ Tch M w wr) (fun _ v _ => 2 * j + 3 - (intOf v).toNat)
    case atStart => exact ⟨2 * j + 1, j, by go_num, rfl, by omega, by omega, Lib.hid (fAt_0 L' j).symm, HP.out, HT.out⟩
    case round =>
      obtain ⟨b, f, rfl, rfl, hb1, hb2, hf, hP, hT⟩ := hrel
      clear HP HT
      have HP := Lib.hid hP
      have HT := Lib.hid hT
      have N := Lib.hid (fun W (h : RowKit.Below wr.heap.size wr W) => len_call (HP.out.below h))
      rw [hl.out] at N
      clear hP hT
      by_cases h : b < min (2 * j + 3) n
      · have hbn : b < n := by omega
        have A := Lib.hid (fun W (h : RowKit.Below wr.heap.size wr W) => ahead_call (HP.out.below h) b f (by rw [hl.out]; exact hbn) (by rw [hf.out]; exact fAt_lt L' j b hb1 (by omega) (by rw [hl.out]; exact hbn)))
        go_wp2_with fail
        refine (N.out _ (Below.refl _ _)).mono ?_
        rintro e w1 ⟨rfl, rfl⟩
        have hz : (b : Int) < min (2 * (j : Int) + 1 + 2) n := by omega
        have FS := Lib.hid (fAt_step L' j b hb1 (by omega) (by rw [hl.out]; exact hbn))
        cases hc : ltH L'[b]! L'[f]! with
        | true =>
          have F2 := Lib.hid (show b = fAt L' j (b + 1) by rw [FS.out, ← hf.out, if_pos hc])
          rw [hc] at A
          clear hc
          go_wp2_with fail
          refine (A.out _ (Below.refl _ _)).mono ?_
          rintro e w1 ⟨rfl, hg1⟩
          go_wp2
          go_roundw
          case rel => exact ⟨b + 1, b, by go_num, rfl, by omega, by omega, F2, HP.out.below hg1.below, HT.out.bel hg1.below⟩
          case measure => simp [intOf]; omega
        | false =>
          have F2 := Lib.hid (show f = fAt L' j (b + 1) by rw [FS.out, ← hf.out, if_neg (by rw [hc]; simp)])
          rw [hc] at A
          clear hc
          go_wp2_with fail
          refine (A.out _ (Below.refl _ _)).mono ?_
          rintro e w1 ⟨rfl, hg1⟩
          go_wp2
          go_roundw
          case rel => exact ⟨b + 1, f, by go_num, rfl, by omega, by omega, F2, HP.out.below hg1.below, HT.out.bel hg1.below⟩
          case measure => simp [intOf]; omega
      · have hz : ¬ (b : Int) < min (2 * (j : Int) + 1 + 2) n := by omega
        have hfe : f = firstL ltH L' j := by rw [hf.out]; exact fAt_end L' j b hb1 hb2 (by rw [hl.out]; exact h)
        by_cases hfj : f = j
        · have hS := Lib.hid (sinkL_stay (hfe.symm.trans hfj))
          subst hfj
          clear hfe hf
          go_wp2_with fail
          refine (N.out _ (Below.refl _ _)).mono ?_
          rintro e w1 ⟨rfl, rfl⟩
          go_wp2
          refine bodyPost_ret (results_none rfl _ _ _) rfl ?_
          exact ⟨rfl, by rw [hE.out, hS.out]; exact HP.out, HT.out⟩
        · have hc := (firstL_cases (lt := ltH) L' j).resolve_left (by rw [← hfe]; exact hfj)
          rw [← hfe, hl.out] at hc
          obtain ⟨c1, c2, _⟩ := hc
          have hS := Lib.hid (sinkL_down hfe.symm hfj)
          have B := Lib.hid (fun W (h : RowKit.Below wr.heap.size wr W) => swap_call (HP.out.below h) j f (by rw [hl.out]; omega) (by rw [hl.out]; exact c2) (by omega))
          have hzf : ¬ (f : Int) = (j : Int) := by omega
          clear hfe hf
          go_wp2_with fail
          refine (N.out _ (Below.refl _ _)).mono ?_
          rintro e w1 ⟨rfl, rfl⟩
          go_wp2_with fail
          refine (B.out _ (Below.refl _ _)).mono ?_
          rintro e w2 ⟨rfl, hp2, ht2⟩
          have P2 := Lib.hid hp2
          have T2 := Lib.hid (HT.out.more ht2)
          clear hp2 ht2
          go_wp2
          go_roundw
          case rel => exact ⟨f, swapL L' j f, by go_num, by omega, hn, Lib.hid (by rw [swapL_len]; exact hl.out), P2.out, T2.out, Lib.hid (by rw [hE.out, ← hS.out])⟩
          case measure => simp [intOf]; omega
end
end Go.Proofs.YtaceahjomhgccaaDoor
