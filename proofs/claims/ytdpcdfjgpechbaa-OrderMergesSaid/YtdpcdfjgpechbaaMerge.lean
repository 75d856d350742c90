/-
  order.Minus; slices.Concat at handles, order.Merge.
-/
import Derived.Test.YtdpcdfjgpechbaaMinus
namespace Go.Proofs.Ytdpcdfjgpechbaa
set_option linter.unusedSimpArgs false
set_option linter.unusedVariables false
open Go.RowKit Go.Sort Go.Lib Go.Shelf

set_option maxHeartbeats 1000000 in
set_option maxRecDepth 100000 in
theorem minusFn_call (lb : List Hd) (pb : Option Addr) (cb : Nat) (bx x1 x2 : Nat → Int) (B : Nat) (i : Nat) (W : World) (hc : W.cell? ⟨B, 0, none⟩ = some (.slice pb lb.length cb)) (hs : Sl encH W (.slice pb lb.length cb) lb) (hr : Rise ltH lb) (hlen : lb.length ≤ 100000) :
    Calls Try.prog 43 #[.agg #[.int .i64 (x1 i), .int .i64 (x2 i)], .pointer (some ⟨B, 0, none⟩)] W fun e w' => e = .returned (.bool (decide (((x1 i, x2 i) : Hd) ∈ lb))) ∧ Gr W w' := by
  generalize x1 i = a
  generalize x2 i = b
  have hl := cell_lt hc
  have hne : ¬ B = W.heap.size := by omega
  have HS := Lib.hid (hs.below (Ba (Below.refl _ W) (.cells #[.int .i64 a, .int .i64 b] 28)))
  have HF := Lib.hid (find_call lb _ a b _ HS.out hr hlen)
  clear hs hr
  by_cases hx : ((a, b) : Hd) ∈ lb
  · rw [if_pos hx] at HF
    have e : decide (((a, b) : Hd) ∈ lb) = true := decide_eq_true hx
    have HE := Lib.hid e
    clear hx e
    go_enter Try.func43, Try.ntmps43
    go_wp2_with (go_at_call 22; refine HF.out.mono ?_; rintro e w1 ⟨rfl, hg1⟩)
    go_ret
    exact ⟨by rw [HE.out]; simp, (by repeat (first | with_reducible exact Gr.refl _ | with_reducible assumption | with_reducible apply Gr.alloc | with_reducible apply Gr.drewN | with_reducible apply Gr.drew | with_reducible apply Gr.grow | (with_reducible refine Gr.trans ?_ (by assumption))))⟩
  · rw [if_neg hx] at HF
    have e : decide (((a, b) : Hd) ∈ lb) = false := decide_eq_false hx
    have HE := Lib.hid e
    clear hx e
    go_enter Try.func43, Try.ntmps43
    go_wp2_with (go_at_call 22; refine HF.out.mono ?_; rintro e w1 ⟨rfl, hg1⟩)
    go_ret
    exact ⟨by rw [HE.out]; simp, (by repeat (first | with_reducible exact Gr.refl _ | with_reducible assumption | with_reducible apply Gr.alloc | with_reducible apply Gr.drewN | with_reducible apply Gr.drew | with_reducible apply Gr.grow | (with_reducible refine Gr.trans ?_ (by assumption))))⟩

set_option maxHeartbeats 1000000 in
set_option maxRecDepth 100000 in
theorem delete0_call (p : Option Addr) (cap : Nat) (fv : Value) (w : World) : Calls Try.prog 41 #[.slice p 0 cap, fv] w fun e w' => e = .returned (.slice p 0 cap) ∧ w' = w := by
  have hI : Calls Try.prog 58 #[.slice p 0 cap, fv] w fun e w' => e = .returned (.int .i64 (-1)) ∧ w' = w := by
    go_enter Try.func58, Try.ntmps58
    go_wp2_with fail
    refine wp_loop_rounds 1 ?_
    rw [rounds_succ]
    go_wp2
    go_ret
    exact ⟨rfl, rfl⟩
  go_enter Try.func41, Try.ntmps41
  go_wp2_with (go_at_call 58; refine hI.mono ?_; rintro e w1 ⟨rfl, rfl⟩)
  go_ret
  exact ⟨rfl, rfl⟩

set_option maxHeartbeats 1000000 in
set_option maxRecDepth 100000 in
/-- order.Minus: what stands in the first list alone. -/
theorem minus_call (la lb : List Hd) (va vb : Value) (w : World) (ha : Sl encH w va la) (hb : Sl encH w vb lb) (hr : Rise ltH lb) (hla : la.length ≤ 100000) (hlb : lb.length ≤ 100000) :
    Calls Try.prog 25 #[va, vb] w fun e w' => ∃ v', e = .returned v' ∧ Own w.heap.size encH 2 w' v' (la.filter fun x => !decide (x ∈ lb)) ∧ RowKit.Below w.heap.size w w' := by
  obtain ⟨pb, cb, rfl, hb1, hb2, hb3⟩ := hb
  have HSB := Lib.hid (show Sl encH w (.slice pb lb.length cb) lb from ⟨pb, cb, rfl, hb1, hb2, hb3⟩)
  clear hb3
  obtain ⟨W0, hW0⟩ : ∃ W0, W0 = w.alloc (.cells #[.slice pb lb.length cb] 22) := ⟨_, rfl⟩
  have hWs : W0.heap.size = w.heap.size + 1 := by rw [hW0]; simp
  have B0 := Lib.hid (show RowKit.Below w.heap.size w W0 by rw [hW0]; exact Ba (Below.refl _ _) _)
  have hc : W0.cell? ⟨w.heap.size, 0, none⟩ = some (.slice pb lb.length cb) := by rw [hW0]; simp
  have hpred : Pred W0.heap.size W0 (.pointer (some ⟨w.heap.size, 0, none⟩)) (fun x => decide (x ∈ lb)) := fun W hW x1 x2 =>
    minusFn_call lb pb cb (fun _ => 0) (fun _ => x1) (fun _ => x2) w.heap.size 0 W (Bc hW (by omega) hc) ((HSB.out.below B0.out).below hW) hr hlb
  have HP := Lib.hid hpred
  have HCL := Lib.hid (cloneH_call la va W0 (ha.below B0.out) hla)
  have HW0 := Lib.hid hW0
  clear hpred ha hc hr
  go_enter Try.func25, Try.ntmps25
  go_wp2_with fail
  rw [← HW0.out]
  refine HCL.out.mono ?_
  rintro e w1 ⟨v1, rfl, ho1, _, hb1'⟩
  have B1 := Lib.hid hb1'
  obtain ⟨p, cap, rfl, h1, h2, h⟩ := ho1
  have hcm : cap ≤ 9223372036854775807 := by unfold maxLen at h2; omega
  by_cases h0 : la.length = 0
  · have hl0 : la = [] := List.length_eq_zero_iff.1 h0
    subst hl0
    have H2 := Lib.hid h2
    clear h h1 h2 hb1' HW0
    go_wp2_with fail
    refine (delete0_call p cap _ w1).mono ?_
    rintro e w2 ⟨rfl, rfl⟩
    go_wp2
    go_ret
    exact ⟨_, rfl, ⟨p, cap, rfl, Nat.zero_le _, H2.out, fun h => absurd h (by simp)⟩, B0.out.trans (B1.out.mono (by omega))⟩
  · obtain ⟨g, rfl, hbg, hgl, hH⟩ := h (by omega)
    have hcon := deleteH_call W0.heap.size W0 _ _ HP.out g cap la.toArray w1 hH hgl hbg hb1' (by simp; omega) (by simpa using h1) hcm
    simp only [List.size_toArray, List.toList_toArray] at hcon
    have HC := Lib.hid hcon
    have H2 := Lib.hid h2
    clear h hcon hb1' h2 hH HW0
    go_wp2_with fail
    refine HC.out.mono ?_
    rintro e w2 ⟨rfl, ⟨d2, hs2, hlow, hH2⟩, hsz, hb2'⟩
    have hle : (la.filter fun x => !decide (x ∈ lb)).length ≤ la.length := List.length_filter_le _ _
    have HH := Lib.hid (holds_prefix lenH hH2 (by omega) hlow)
    have BE := Lib.hid (B0.out.trans (hb2'.mono (by omega)))
    have hgl2 : g < w2.heap.size := by omega
    clear hlow hH2 hb2'
    go_wp2
    go_ret
    exact ⟨_, rfl, ⟨_, cap, rfl, by omega, H2.out, fun _ => ⟨g, rfl, by omega, hgl2, HH.out⟩⟩, BE.out⟩
end Go.Proofs.Ytdpcdfjgpechbaa
