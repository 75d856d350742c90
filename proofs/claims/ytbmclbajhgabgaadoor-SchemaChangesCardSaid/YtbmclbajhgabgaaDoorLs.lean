/-
  The walk of SchemaAsks.
-/
import Derived.Test.YtbmclbajhgabgaaDoorLr
import Derived.Test.YtbmclbajhgabgaaDoorVu
namespace Go.Proofs.YtbmclbajhgabgaaDoor
set_option linter.unusedSimpArgs false
set_option linter.unusedVariables false
open Go.RowKit Go.Sort Go.Lib Go.Shelf

set_option maxHeartbeats 4000000 in
set_option maxRecDepth 100000 in
theorem asks_walk (l : List Vl) (v : Value) (k : Int) (w : World) (hl : Sl encV w v l) (A : Nat → Addr) (hE : Er w A) :
    Calls Tryd.prog 5 #[v, .int .i64 k] w fun e w' => e = .returned (.bool true) ∧ RowKit.Below w.heap.size w w' := by
  have HE := Lib.hid hE
  have HS := Lib.hid hl
  obtain ⟨p, cap, rfl, hl1, hl2, _⟩ := hl
  have hbig : l.length ≤ 9223372036854775807 := by unfold maxLen at hl2; omega
  clear hE hl2
  obtain ⟨n, hn⟩ : ∃ n, n = rowN l := ⟨_, rfl⟩
  have HN := Lib.hid hn
  clear hn
  go_enter Tryd.func5, Tryd.ntmps5
  go_wp2_with fail
  refine (alive_any A w HE.out).mono ?_
  rintro e w1 ⟨rfl, hb1⟩
  have B1 := Lib.hid hb1
  clear hb1
  by_cases hlen : l.length ≤ 20
  · have hlt : ¬ (20 : Int) < (l.length : Int) := by omega
    go_wp2_with fail
    refine (rrow_call l _ w1 (HS.out.below B1.out) (by omega)).mono ?_
    rw [← HN.out]
    rintro e w2 ⟨⟨v2, rfl, hs2⟩, hb2⟩
    have B2 := Lib.hid (Bt B1.out hb2)
    have HS2 := Lib.hid hs2
    clear hb2 hs2
    by_cases h0 : n = 0
    · have HR := Lib.hid (show ∀ x ∈ rowL l, chk x = 0 from (row_right (by rw [← HN.out]; exact h0)).1.2)
      have HL := Lib.hid (rowL_len l)
      subst h0
      generalize rowL l = L at *
      obtain ⟨x1, x2, x3, hx⟩ : ∃ a b c, aggV (fndV L k) = .agg #[.int .i64 a, .int .i64 b, .int .i64 c] := ⟨_, _, _, rfl⟩
      obtain ⟨q1, hq1⟩ : ∃ q, q = hasK L k := ⟨_, rfl⟩
      obtain ⟨b1, b2, b3, b4, hbx⟩ : ∃ a b c d, boxA L = .agg #[.int .i64 a, .int .i64 b, .int .i64 c, .int .i64 d] := by
        unfold boxA
        split
        · exact ⟨_, _, _, _, rfl⟩
        · exact ⟨_, _, _, _, rfl⟩
      obtain ⟨q2, hq2⟩ : ∃ q, q = boxB L := ⟨_, rfl⟩
      obtain ⟨q3, hq3⟩ : ∃ q, q = blkB L := ⟨_, rfl⟩
      obtain ⟨m, hm⟩ : ∃ m, m = maskV L := ⟨_, rfl⟩
      have C1 : Hid (∀ W, Sl encV W v2 L → Calls Tryd.prog 19 #[v2, .int .i64 k] W fun e w' => e = .returned (.tuple #[.agg #[.int .i64 x1, .int .i64 x2, .int .i64 x3], .bool q1]) ∧ RowKit.Below W.heap.size W w') := fun W h => by
        have h2 := find_call L v2 k W h
        rw [hx, ← hq1] at h2
        exact h2.mono fun e w' h => ⟨h.1, h.2.below⟩
      have C2 : Hid (∀ W, Sl encV W v2 L → Calls Tryd.prog 20 #[v2, .int .i64 k] W fun e w' => e = .returned (.tuple #[.agg #[.int .i64 x1, .int .i64 x2, .int .i64 x3], .bool q1]) ∧ RowKit.Below W.heap.size W w') := fun W h => by
        have h2 := rfind_call L v2 k W h
        rw [hx, ← hq1] at h2
        exact h2.mono fun e w' h => ⟨h.1, h.2.below⟩
      have C3 : Hid (∀ W, Sl encV W v2 L → Calls Tryd.prog 21 #[v2] W fun e w' => e = .returned (.tuple #[.agg #[.int .i64 b1, .int .i64 b2, .int .i64 b3, .int .i64 b4], .bool q2]) ∧ RowKit.Below W.heap.size W w') := fun W h => by
        have := box_call L v2 W h HR.out
        rwa [hbx, ← hq2] at this
      have C4 : Hid (∀ W, Sl encV W v2 L → Calls Tryd.prog 22 #[v2] W fun e w' => e = .returned (.tuple #[.agg #[.int .i64 b1, .int .i64 b2, .int .i64 b3, .int .i64 b4], .bool q2]) ∧ RowKit.Below W.heap.size W w') := fun W h => by
        have := rbox_call L v2 W h HR.out
        rwa [hbx, ← hq2] at this
      have C5 : Hid (∀ W, Sl encV W v2 L → Er W A → Calls Tryd.prog 23 #[v2] W fun e w' => e = .returned (.int .u64 m) ∧ RowKit.Below W.heap.size W w') := fun W h hE => by
        have := mask_call L v2 (A 4) W h HR.out hE.k (by have := HL.out; omega)
        rwa [← hm] at this
      have C6 : Hid (∀ W, Sl encV W v2 L → Calls Tryd.prog 24 #[v2] W fun e w' => e = .returned (.int .u64 m) ∧ RowKit.Below W.heap.size W w') := fun W h => by
        have := rmask_call L v2 W h HR.out (by have := HL.out; omega)
        rwa [← hm] at this
      have C7 : Hid (∀ W, Sl encV W v2 L → Calls Tryd.prog 25 #[v2] W fun e w' => e = .returned (.bool q3) ∧ RowKit.Below W.heap.size W w') := fun W h => by
        have := blocks_call L v2 W h HR.out
        rwa [← hq3] at this
      have C8 : Hid (∀ W, Sl encV W v2 L → Calls Tryd.prog 26 #[v2] W fun e w' => e = .returned (.bool q3) ∧ RowKit.Below W.heap.size W w') := fun W h => by
        have := rblocks_call L v2 W h HR.out
        rwa [← hq3] at this
      clear hx hq1 hbx hq2 hq3 hm
      go_wp2_with fail
      refine (C1.out w2 HS2.out).mono ?_
      rintro e w3 ⟨rfl, hb3⟩
      have B3 := Lib.hid (Bt B2.out hb3)
      have K3 := Lib.hid hb3
      clear hb3
      go_wp2_with fail
      refine (C2.out _ (HS2.out.below (Ba K3.out _))).mono ?_
      rintro e w4 ⟨rfl, hb4⟩
      have c40 : w4.cell? ⟨w3.heap.size, 0, none⟩ = some (.int .i64 x1) := Bc hb4 (by simp) (by simp)
      have c41 : w4.cell? ⟨w3.heap.size, 1, none⟩ = some (.int .i64 x2) := Bc hb4 (by simp) (by simp)
      have c42 : w4.cell? ⟨w3.heap.size, 2, none⟩ = some (.int .i64 x3) := Bc hb4 (by simp) (by simp)
      have hl4 : w3.heap.size < w4.heap.size := Bl hb4 (by simp)
      have B4 := Lib.hid (Bt (Ba B3.out (.cells #[.int .i64 x1, .int .i64 x2, .int .i64 x3] 23)) hb4)
      have K4 := Lib.hid (Bt (Ba K3.out (.cells #[.int .i64 x1, .int .i64 x2, .int .i64 x3] 23)) hb4)
      clear hb4
      go_wp2_with fail
      refine (C3.out _ (HS2.out.below (Ba K4.out _))).mono ?_
      rintro e w5 ⟨rfl, hb5⟩
      have hb5' : RowKit.Below w4.heap.size w4 w5 := Bt (Ba (Below.refl _ w4) _) hb5
      have c50 : w5.cell? ⟨w3.heap.size, 0, none⟩ = some (.int .i64 x1) := Bc hb5' hl4 c40
      have c51 : w5.cell? ⟨w3.heap.size, 1, none⟩ = some (.int .i64 x2) := Bc hb5' hl4 c41
      have c52 : w5.cell? ⟨w3.heap.size, 2, none⟩ = some (.int .i64 x3) := Bc hb5' hl4 c42
      have d50 : w5.cell? ⟨w4.heap.size, 0, none⟩ = some (.int .i64 x1) := Bc hb5 (by simp) (by simp)
      have d51 : w5.cell? ⟨w4.heap.size, 1, none⟩ = some (.int .i64 x2) := Bc hb5 (by simp) (by simp)
      have d52 : w5.cell? ⟨w4.heap.size, 2, none⟩ = some (.int .i64 x3) := Bc hb5 (by simp) (by simp)
      have hl5 : w3.heap.size < w5.heap.size := Bl hb5' hl4
      have hm5 : w4.heap.size < w5.heap.size := Bl hb5 (by simp)
      have B5 := Lib.hid (Bt B4.out hb5')
      have K5 := Lib.hid (Bt K4.out hb5')
      clear hb5 hb5' c40 c41 c42
      go_wp2_with fail
      refine (C4.out _ (HS2.out.below (Ba K5.out _))).mono ?_
      rintro e w6 ⟨rfl, hb6⟩
      have hb6' : RowKit.Below w5.heap.size w5 w6 := Bt (Ba (Below.refl _ w5) _) hb6
      have c60 : w6.cell? ⟨w3.heap.size, 0, none⟩ = some (.int .i64 x1) := Bc hb6' hl5 c50
      have c61 : w6.cell? ⟨w3.heap.size, 1, none⟩ = some (.int .i64 x2) := Bc hb6' hl5 c51
      have c62 : w6.cell? ⟨w3.heap.size, 2, none⟩ = some (.int .i64 x3) := Bc hb6' hl5 c52
      have d60 : w6.cell? ⟨w4.heap.size, 0, none⟩ = some (.int .i64 x1) := Bc hb6' hm5 d50
      have d61 : w6.cell? ⟨w4.heap.size, 1, none⟩ = some (.int .i64 x2) := Bc hb6' hm5 d51
      have d62 : w6.cell? ⟨w4.heap.size, 2, none⟩ = some (.int .i64 x3) := Bc hb6' hm5 d52
      have f60 : w6.cell? ⟨w5.heap.size, 0, none⟩ = some (.int .i64 b1) := Bc hb6 (by simp) (by simp)
      have f61 : w6.cell? ⟨w5.heap.size, 1, none⟩ = some (.int .i64 b2) := Bc hb6 (by simp) (by simp)
      have f62 : w6.cell? ⟨w5.heap.size, 2, none⟩ = some (.int .i64 b3) := Bc hb6 (by simp) (by simp)
      have f63 : w6.cell? ⟨w5.heap.size, 3, none⟩ = some (.int .i64 b4) := Bc hb6 (by simp) (by simp)
      have hl6 : w3.heap.size < w6.heap.size := Bl hb6' hl5
      have hm6 : w4.heap.size < w6.heap.size := Bl hb6' hm5
      have hn6 : w5.heap.size < w6.heap.size := Bl hb6 (by simp)
      have B6 := Lib.hid (Bt B5.out hb6')
      have K6 := Lib.hid (Bt K5.out hb6')
      clear hb6 hb6' c50 c51 c52 d50 d51 d52
      go_wp2_with fail
      refine (C5.out _ (HS2.out.below (Ba K6.out _)) (HE.out.below (Ba B6.out _))).mono ?_
      rintro e w7 ⟨rfl, hb7⟩
      have B7 := Lib.hid (Bt (Ba B6.out (.cells #[.int .i64 b1, .int .i64 b2, .int .i64 b3, .int .i64 b4] 41)) hb7)
      have K7 := Lib.hid (Bt (Ba K6.out (.cells #[.int .i64 b1, .int .i64 b2, .int .i64 b3, .int .i64 b4] 41)) hb7)
      clear hb7
      go_wp2_with fail
      refine (C6.out _ (HS2.out.below K7.out)).mono ?_
      rintro e w8 ⟨rfl, hb8⟩
      have B8 := Lib.hid (Bt B7.out hb8)
      have K8 := Lib.hid (Bt K7.out hb8)
      clear hb8
      go_wp2_with fail
      refine (C7.out _ (HS2.out.below K8.out)).mono ?_
      rintro e w9 ⟨rfl, hb9⟩
      have B9 := Lib.hid (Bt B8.out hb9)
      have K9 := Lib.hid (Bt K8.out hb9)
      clear hb9
      go_wp2_with fail
      refine (C8.out _ (HS2.out.below K9.out)).mono ?_
      rintro e w10 ⟨rfl, hb10⟩
      have B10 := Lib.hid (Bt B9.out hb10)
      clear hb10
      go_wp2
      go_ret
      exact ⟨by simp, B10.out⟩
    · have hne : ((n : Int) != 0) = true := by simp; omega
      have hne2 : ((n : Int) == 0) = false := beq_eq_false_iff_ne.2 (by omega)
      go_wp2
      go_ret
      exact ⟨rfl, B2.out⟩
  · have hlt : (20 : Int) < (l.length : Int) := by omega
    go_wp2
    go_ret
    exact ⟨rfl, B1.out⟩
end Go.Proofs.YtbmclbajhgabgaaDoor
