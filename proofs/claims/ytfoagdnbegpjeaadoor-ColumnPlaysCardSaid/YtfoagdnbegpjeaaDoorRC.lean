/-
  The reference's column: Has, Push, Take.
-/
import Derived.Test.YtfoagdnbegpjeaaDoorCI
namespace Go.Proofs.YtfoagdnbegpjeaaDoor
set_option linter.unusedSimpArgs false
set_option linter.unusedVariables false
open Go.RowKit Go.Sort Go.Lib Go.Shelf

section
variable {pa : Nat} {L : List Int} {m : Int} {M : Nat → Prop} {w : World}
/-- The reference's column. -/
abbrev ColR (w : World) (M : Nat → Prop) (pa : Nat) (L : List Int) (m : Int) : Prop := ColAt encI 3 1 29 w M pa L m

theorem rhas_call (hp : ColR w M pa L m) (i : Int) : Calls Tryd.prog 16 #[.pointer (some ⟨pa, 0, none⟩), .int .i64 i] w fun e w' => e = .returned (.bool (decide (0 ≤ i ∧ i < L.length))) ∧ w = w' := by
  obtain ⟨p, cap, hi, h1, h2, _⟩ := hp.open
  have hl := hi.lt
  obtain ⟨c0, c1, f0, f1⟩ := hi.cells
  clear hi hp
  by_cases a : 0 ≤ i
  · by_cases b : i < L.length
    · have e : decide (0 ≤ i ∧ i < L.length) = true := decide_eq_true ⟨a, b⟩
      rw [e]
      clear e
      go_enter Tryd.func16, Tryd.ntmps16
      go_wp2
      go_ret
      exact ⟨rfl, rfl⟩
    · have e : decide (0 ≤ i ∧ i < L.length) = false := decide_eq_false (fun h => b h.2)
      rw [e]
      clear e
      go_enter Tryd.func16, Tryd.ntmps16
      go_wp2
      go_ret
      exact ⟨rfl, rfl⟩
  · have e : decide (0 ≤ i ∧ i < L.length) = false := decide_eq_false (fun h => a h.1)
    rw [e]
    clear e
    go_enter Tryd.func16, Tryd.ntmps16
    go_wp2
    go_ret
    exact ⟨rfl, rfl⟩

set_option maxHeartbeats 1000000 in
set_option maxRecDepth 100000 in
theorem rpush_no (hp : ColR w M pa L m) (l : List Int) (vl : Value) (hv : Sl encI w vl l) (hm : 0 ≤ m) (hm2 : m ≤ 9223372036854775807) (hn : m - L.length < l.length) :
    Calls Tryd.prog 13 #[.pointer (some ⟨pa, 0, none⟩), vl] w fun e w' => e = .returned (.int .i64 2) ∧ RowKit.Below w.heap.size w w' := by
  obtain ⟨p, cap, hi, h1, h2, h3⟩ := hp.open
  have hl := hi.lt
  obtain ⟨c0, c1, f0, f1⟩ := hi.cells
  obtain ⟨p2, cap2, rfl, q1, q2, _⟩ := hv
  unfold maxLen at q2
  clear hi hp h3
  go_enter Tryd.func13, Tryd.ntmps13
  go_wp2_with fail
  go_quiet (fail)
  go_wp2
  go_ret
  exact ⟨rfl, (by repeat (first | with_reducible exact Below.refl _ _ | with_reducible assumption | with_reducible apply Ba | with_reducible apply Bd | with_reducible apply Bn | with_reducible apply Bg | (with_reducible refine Bs ?_ (by first | (simp; done) | (simp; omega)) _) | (with_reducible refine Bt ?_ (by assumption)) | (with_reducible refine Bt ?_ (Gr.below (by assumption)))))⟩
set_option maxHeartbeats 2000000 in
set_option maxRecDepth 100000 in
theorem rpush_yes (hp : ColR w M pa L m) (l : List Int) (vl : Value) (hv : Sl encI w vl l) (hm : 0 ≤ m) (hm2 : m ≤ 9223372036854775807) (hn : ¬ m - L.length < l.length) (hlen : L.length + l.length ≤ 1000000) :
    Calls Tryd.prog 13 #[.pointer (some ⟨pa, 0, none⟩), vl] w fun e w' => e = .returned (.int .i64 0) ∧ ColR w' (New M w w') pa (L ++ l) m ∧ Tch M w w' := by
  obtain ⟨p, cap, hi, h1, h2, h3⟩ := hp.open
  have hl := hi.lt
  obtain ⟨c0, c1, f0, f1⟩ := hi.cells
  have HV := Lib.hid hv
  obtain ⟨p2, cap2, rfl, q1, q2, _⟩ := hv
  unfold maxLen at q2
  have HI := Lib.hid hi
  clear hi hp h3
  go_enter Tryd.func13, Tryd.ntmps13
  go_wp2_with fail
  go_quiet (fail)
  obtain ⟨W0, hW0⟩ : ∃ W0, W0 = w.drewN nq := ⟨_, rfl⟩
  have hs0 : W0.heap.size = w.heap.size := by rw [hW0]; rfl
  have B0 : RowKit.Below w.heap.size w W0 := by rw [hW0]; exact Bn (Below.refl _ w)
  have P0 := HI.out.below B0
  rw [← hW0]
  obtain ⟨x0, _, xf, _⟩ := P0.cells
  have hl0 := P0.lt
  have HS0 := Lib.hid hs0
  have B1 := Lib.hid (Ba B0 (.cells #[] 3))
  clear c0 c1 f0 f1 hl hW0 hs0 B0 P0
  have P1 := Lib.hid (HI.out.below B1.out)
  have V1 := Lib.hid (HV.out.below B1.out)
  have hH1 : pa ≠ W0.heap.size := by omega
  have O1 := Lib.hid (show (W0.alloc (.cells #[] 3)).ownsRow w.heap.size 3 1 (.slice (some ⟨W0.heap.size, 0, none⟩) 0 0) ([] : List Int).length (flat encI []) from World.ownsRow_made _ #[] 0 (Nat.le_of_eq HS0.out.symm) (Nat.zero_le _) (by simp))
  go_wp2_with (first
    | (at_builtin; refine wpl_app2 apI rfl _ _ rfl w.heap.size (by rfl) (by rfl) O1.out rfl (P1.out.2.2.sl lenI) (by simp; omega) B1.out.size ?_; intro v4 w4 hown4 hgrow4 hat4 _; have B4 := Lib.hid (grownB B1.out O1.out hgrow4); have P4 := Lib.hid (HI.out.below B4.out); have V4 := Lib.hid (HV.out.below B4.out); have O4 := Lib.hid hown4; clear hown4 hgrow4 hat4)
    | (at_builtin; refine wpl_app2 apI rfl _ _ rfl w.heap.size (by rfl) (by rfl) O4.out rfl V4.out (by simp; omega) B4.out.size ?_; intro v5 w5 hown5 hgrow5 hat5 _; obtain ⟨p5, c5, rfl, _, _, _⟩ := row_val hown5; have B5 := Lib.hid (grownB B4.out O4.out hgrow5); have P5 := Lib.hid (HI.out.below B5.out); have O5 := Lib.hid hown5; obtain ⟨z0, _, z1, _⟩ := P5.out.cells; clear hown5 hgrow5 hat5))
  have e : [] ++ L ++ l = L ++ l := by simp
  have O6 := O5.out
  rw [e] at O6
  obtain ⟨P7, t7⟩ := col_put (T := 29) (M := New M w w5) (L := L ++ l) (by decide) P5.out.1 (.inl P5.out.2.1) ((row_fresh O6).mono (fun b h => h.elim (fun q => q.elim) .inr))
  have hlenS : (L ++ l).length = L.length + l.length := by simp
  rw [hlenS] at P7 t7
  go_ret
  exact ⟨rfl, P7.at.mono (New.mono (by simp)), (Tch.of (M := M) B5.out).trans t7⟩

theorem own_at {W W0 : World} {b et k n : Nat} {v : Value} {xs : List Value} (e : W0 = W) (h : W.ownsRow b et k v n xs) : W0.ownsRow b et k v n xs := e ▸ h
/-- What the reference's Take gathers. -/
def gathered (L : List Int) (n k : Nat) : List Int := (takeC L n).take k
theorem gathered_succ (L : List Int) (n k : Nat) (hk : k < L.length - 1) : gathered L n (k + 1) = gathered L n k ++ [if k = n then L[L.length - 1]! else L[k]!] := by
  unfold gathered
  rw [List.take_succ_eq_append_getElem (by rw [takeC_len]; exact hk), ← takeC_get L n k hk, getElem!_pos _ _ (by rw [takeC_len]; exact hk)]

theorem rtake_no (hp : ColR w M pa L m) (i : Int) (hn : ¬ (0 ≤ i ∧ i < L.length)) : Calls Tryd.prog 19 #[.pointer (some ⟨pa, 0, none⟩), .int .i64 i] w fun e w' => e = .returned (.tuple #[.int .i64 0, .int .i64 1]) ∧ RowKit.Below w.heap.size w w' := by
  have hG := Lib.hid (rhas_call hp i)
  rw [decide_eq_false hn] at hG
  clear hp hn
  go_enter Tryd.func19, Tryd.ntmps19
  go_wp2_with (go_at_call 16; refine hG.out.mono ?_; rintro e w1 ⟨rfl, rfl⟩)
  go_ret2
  exact ⟨rfl, (by repeat (first | with_reducible exact Below.refl _ _ | with_reducible assumption | with_reducible apply Ba | with_reducible apply Bd | with_reducible apply Bn | with_reducible apply Bg | (with_reducible refine Bs ?_ (by first | (simp; done) | (simp; omega)) _) | (with_reducible refine Bt ?_ (by assumption)) | (with_reducible refine Bt ?_ (Gr.below (by assumption)))))⟩
set_option maxHeartbeats 2000000 in
set_option maxRecDepth 100000 in
theorem rtake_yes (hp : ColR w M pa L m) (n : Nat) (hn : n < L.length) (hlen : L.length ≤ 100000) : Calls Tryd.prog 19 #[.pointer (some ⟨pa, 0, none⟩), .int .i64 n] w fun e w' => e = .returned (.tuple #[.int .i64 L[n]!, .int .i64 0]) ∧ ColR w' (New M w w') pa (takeC L n) m ∧ Tch M w w' := by
  have hG := Lib.hid (rhas_call hp n)
  rw [decide_eq_true (show 0 ≤ (n : Int) ∧ (n : Int) < L.length from ⟨by omega, by omega⟩)] at hG
  obtain ⟨p, cap, hi, h1, h2, h3⟩ := hp.open
  obtain ⟨g, rfl, hg⟩ := h3 (by omega)
  have hl := hi.lt
  have HI := Lib.hid hi
  obtain ⟨c0, c1, f0, f1⟩ := hi.cells
  have d1 := row_cell1 cI hi.2.2.1 n hn
  generalize hxn : (Value.int .i64 L[n]!) = xn at d1 ⊢
  clear hxn
  obtain ⟨q, hq⟩ : ∃ q, L.length = q + 1 := ⟨L.length - 1, by omega⟩
  have hll : (L.length : Int) - 1 = (q : Int) := by omega
  have hqL : q < L.length := by omega
  have hqc : q ≤ cap := by omega
  have hqi : (q : Int) < (L.length : Int) := by omega
  have hq1 : L.length - 1 = q := by omega
  have hq2 : (q : Int) ≤ (cap : Int) := by omega
  have HQ := Lib.hid hq1
  have d2 := row_cell1 cI hi.2.2.1 q hqL
  have HC := Lib.hid (fun j hj => row_cell1 cI hi.2.2.1 j hj)
  have G0 : gathered L n 0 = [] := rfl
  generalize hz : L[q]! = z at d2
  have HZ := Lib.hid hz
  clear hi hp h3 hq hq1 hz
  go_enter Tryd.func19, Tryd.ntmps19
  go_wp2_with (go_at_call 16; refine hG.out.mono ?_; rintro e w1 ⟨rfl, rfl⟩)
  go_quiet (fail)
  go_wp2_with fail
  go_loopw [7, 34] (fun v i wr => ∃ k : Nat, k ≤ q ∧ i = .int .i64 k ∧ RowKit.Below w.heap.size w wr ∧ wr.ownsRow w.heap.size 3 1 v (gathered L n k).length (flat encI (gathered L n k))) (fun _ i _ => q - (intOf i).toNat)
  case atStart => exact ⟨0, Nat.zero_le _, rfl, (by repeat (first | with_reducible exact Below.refl _ _ | with_reducible assumption | with_reducible apply Ba | with_reducible apply Bd | with_reducible apply Bn | with_reducible apply Bg | (with_reducible refine Bs ?_ (by first | (simp; done) | (simp; omega)) _) | (with_reducible refine Bt ?_ (by assumption)) | (with_reducible refine Bt ?_ (Gr.below (by assumption))))), World.ownsRow_lit _ #[] 0 (by simp) (Nat.zero_le _) rfl⟩
  case round =>
    obtain ⟨k, hk, rfl, hb, ho⟩ := hrel
    have HB := Lib.hid hb
    have HO := Lib.hid ho
    have hgl : (gathered L n k).length ≤ q := by
      unfold gathered
      rw [List.length_take]
      omega
    have HGL := Lib.hid hgl
    have x0 := Bc hb hl c0
    clear hb ho hgl
    by_cases hkq : k < q
    · have x1 := Bc HB.out hg (HC.out k (by omega))
      have x2 := Bc HB.out hg d2
      have hkL : k < L.length := by omega
      have HS := Lib.hid (gathered_succ L n k (by rw [HQ.out]; exact hkq))
      rw [HQ.out, HZ.out] at HS
      generalize L[k]! = y at x1 HS
      by_cases hkn : k = n
      · subst hkn
        have HS1 := Lib.hid (show gathered L k (k + 1) = gathered L k k ++ [z] by have := HS.out; rwa [if_pos rfl] at this)
        clear HS
        go_wp2_with fail
        go_quiet (fail)
        obtain ⟨W0, hW0⟩ : ∃ W0, W0 = wr.drewN nq := ⟨_, rfl⟩
        have B0 := Lib.hid (show RowKit.Below w.heap.size w W0 by rw [hW0]; exact Bn HB.out)
        have O0 := Lib.hid (own_at hW0 (row_below HO.out (Bn (Below.refl _ _))))
        rw [← hW0]
        clear hW0
        have B2 := Lib.hid (Ba B0.out (.cells #[.int .i64 z] 3))
        have O2 := Lib.hid (row_below O0.out (Ba (Below.refl _ W0) (.cells #[.int .i64 z] 3)))
        have S2 := Lib.hid (sl_lit (enc := encI) (w := W0) (cs := #[.int .i64 z]) (t := 3) (b := W0.heap.size) [z] rfl rfl (by unfold maxLen; simp))
        go_wp2_with (at_builtin; refine wpl_app2 apI rfl _ _ rfl w.heap.size (by rfl) (by rfl) O2.out rfl S2.out (by have := HGL.out; simp; omega) B2.out.size ?_; intro v4 w4 hown4 hgrow4 hat4 _; have B4 := Lib.hid (grownB B2.out O2.out hgrow4); have O4 := Lib.hid hown4; clear hown4 hgrow4 hat4)
        go_roundw
        case measure => simp [intOf]; omega
        case rel => exact ⟨k + 1, by omega, by go_num, B4.out, by rw [HS1.out]; exact O4.out⟩
      · have hkb : ((k : Int) == (n : Int)) = false := by simp; omega
        have HS1 := Lib.hid (show gathered L n (k + 1) = gathered L n k ++ [y] by have := HS.out; rwa [if_neg hkn] at this)
        clear HS hkn
        have B2 := Lib.hid (Ba HB.out (.cells #[.int .i64 y] 3))
        have O2 := Lib.hid (row_below HO.out (Ba (Below.refl _ wr) (.cells #[.int .i64 y] 3)))
        have S2 := Lib.hid (sl_lit (enc := encI) (w := wr) (cs := #[.int .i64 y]) (t := 3) (b := wr.heap.size) [y] rfl rfl (by unfold maxLen; simp))
        go_wp2_with (at_builtin; refine wpl_app2 apI rfl _ _ rfl w.heap.size (by rfl) (by rfl) O2.out rfl S2.out (by have := HGL.out; simp; omega) B2.out.size ?_; intro v4 w4 hown4 hgrow4 hat4 _; have B4 := Lib.hid (grownB B2.out O2.out hgrow4); have O4 := Lib.hid hown4; clear hown4 hgrow4 hat4)
        go_roundw
        case measure => simp [intOf]; omega
        case rel => exact ⟨k + 1, by omega, by go_num, B4.out, by rw [HS1.out]; exact O4.out⟩
    · have hkq' : k = q := by omega
      have hg : gathered L n k = takeC L n := by
        unfold gathered
        exact List.take_of_length_le (by rw [takeC_len]; omega)
      have ho := HO.out
      rw [hg] at ho
      obtain ⟨pv, cv, rfl, _, _, _⟩ := row_val ho
      have P6 := HI.out.below (HB.out : RowKit.Below w.heap.size w wr)
      have f0 := P6.cells.2.2.1
      have hl6 := P6.lt
      obtain ⟨P7, t7⟩ := col_put (T := 29) (M := New M w wr) (L := takeC L n) (by decide) P6.1 (.inl P6.2.1) ((row_fresh ho).mono (fun b h => h.elim (fun q => q.elim) .inr))
      have HP7 := Lib.hid P7
      have HT7 := Lib.hid t7
      clear P7 t7 P6 ho hg
      go_wp2
      go_ret2
      exact ⟨rfl, HP7.out.at.mono (New.mono (by simp)), (Tch.of (M := M) HB.out).trans HT7.out⟩
end
end Go.Proofs.YtfoagdnbegpjeaaDoor
