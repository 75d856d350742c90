/-
  slices.BinarySearchFunc at components.
-/
import Derived.Test.YtbmclbajhgabgaaDoorVl
namespace Go.Proofs.YtbmclbajhgabgaaDoor
set_option linter.unusedSimpArgs false
set_option linter.unusedVariables false
open Go.RowKit Go.Sort Go.Lib Go.Shelf

theorem rise_atK {l : List Vl} (hr : RiseK l) {i j : Nat} (hij : i ≤ j) (hj : j < l.length) {k : Int} (h : ¬ l[i]!.1 < k) : ¬ l[j]!.1 < k := by
  by_cases e : i = j
  · subst e; exact h
  · have hl := List.pairwise_iff_getElem.1 hr i j (by omega) hj (by omega)
    rw [getElem!_pos l i (by omega)] at h
    rw [getElem!_pos l j hj]
    omega
theorem cmpV_agg (a b c d e f : Int) (w : World) : Calls Tryd.prog 43 #[.agg #[.int .i64 a, .int .i64 b, .int .i64 c], .agg #[.int .i64 d, .int .i64 e, .int .i64 f]] w fun x w' => x = .returned (.int .i64 (cmpV (a, b, c) (d, e, f))) ∧ Gr w w' := cmpV_call (a, b, c) (d, e, f) w
theorem cmp_negK {x y : Vl} : (x.1 < y.1 → cmpV x y < 0) ∧ (¬ x.1 < y.1 → ¬ cmpV x y < 0) := by
  have := cmpV_lt x y
  unfold ltK at this
  constructor
  · intro h; rw [decide_eq_true h] at this; exact of_decide_eq_true this
  · intro h; rw [decide_eq_false h] at this; exact of_decide_eq_false this

set_option maxHeartbeats 2000000 in
set_option maxRecDepth 100000 in
theorem searchV_call (l : List Vl) (v : Value) (x1 x2 x3 : Int) (w : World) (hl : Sl encV w v l) (hr : RiseK l) (hlen : l.length ≤ 100000) :
    Calls Tryd.prog 49 #[v, .agg #[.int .i64 x1, .int .i64 x2, .int .i64 x3], .func (.func 43) #[] #[]] w fun e w' => (∃ b, e = .returned (.tuple #[.int .i64 (lessK x1 l : Nat), .bool b])) ∧ Gr w w' := by
  obtain ⟨p, cap, rfl, h1, h2, h⟩ := hl
  have hcm : cap ≤ 9223372036854775807 := by unfold maxLen at h2; omega
  have HL := Lib.hid h
  have HR := Lib.hid hr
  clear h h2 hr
  have mixed : Tryd.prog.follows .mixedOrders = true := by kernel_rfl
  obtain ⟨R1, hR1⟩ : ∃ R1, R1 = lessK x1 l := ⟨_, rfl⟩
  rw [← hR1]
  have HR1 := Lib.hid hR1
  clear hR1
  go_enter Tryd.func49, Tryd.ntmps49
  go_wp2
  go_loopg [9, 10] l.length (fun kx s9 s10 wr => ∃ lo hi : Nat, s9 = .int .i64 lo ∧ s10 = .int .i64 hi ∧ lo ≤ hi ∧ hi ≤ l.length ∧ hi - lo ≤ kx ∧ Gr (w.alloc (.cells #[.int .i64 x1, .int .i64 x2, .int .i64 x3] 23)) wr ∧
    Hid ((∀ t, t < lo → l[t]!.1 < x1) ∧ (∀ t, hi ≤ t → t < l.length → ¬ l[t]!.1 < x1)))
  case atStart => exact ⟨0, l.length, rfl, rfl, Nat.zero_le _, Nat.le_refl _, by omega, (by repeat (first | with_reducible exact Gr.refl _ | with_reducible assumption | with_reducible apply Gr.alloc | with_reducible apply Gr.drewN | with_reducible apply Gr.drew | with_reducible apply Gr.grow | (with_reducible refine Gr.trans ?_ (by assumption)))), ⟨fun t ht => absurd ht (Nat.not_lt_zero _), fun t h1 h2 => by omega⟩⟩
  case round =>
    obtain ⟨lo, hi, rfl, rfl, hlh, hin, hgk, hg, I⟩ := hrel
    have hb1 := hg.below
    have hlw : w.heap.size < wr.heap.size := by have := hb1.size; simp at this; omega
    have d1 : wr.cell? ⟨w.heap.size, 0, none⟩ = some (.int .i64 x1) := (hb1.cell (p := ⟨w.heap.size, 0, none⟩) (by simp)).trans (by simp)
    have d2 : wr.cell? ⟨w.heap.size, 1, none⟩ = some (.int .i64 x2) := (hb1.cell (p := ⟨w.heap.size, 1, none⟩) (by simp)).trans (by simp)
    have d3 : wr.cell? ⟨w.heap.size, 2, none⟩ = some (.int .i64 x3) := (hb1.cell (p := ⟨w.heap.size, 2, none⟩) (by simp)).trans (by simp)
    have HG := Lib.hid hg
    have e3 := cell_grown (show (⟨w.heap.size, 0, none⟩ : Addr).block < wr.heap.size from hlw) d1
    have e4 := cell_grown (show (⟨w.heap.size, 1, none⟩ : Addr).block < wr.heap.size from hlw) d2
    have e5 := cell_grown (show (⟨w.heap.size, 2, none⟩ : Addr).block < wr.heap.size from hlw) d3
    have cat : ∀ i, i < l.length → ∃ g o, p = some ⟨g, o, none⟩ ∧ (wr.cell? ⟨g, o + i * 3, none⟩ = some (.int .i64 l[i]!.1) ∧ wr.cell? ⟨g, o + i * 3 + 1, none⟩ = some (.int .i64 l[i]!.2.1) ∧ wr.cell? ⟨g, o + i * 3 + 2, none⟩ = some (.int .i64 l[i]!.2.2)) ∧ g < wr.heap.size := fun i hi => by
      obtain ⟨g, o, rfl, hgl, hc⟩ := HL.out (by omega)
      obtain ⟨c1, c2, c3⟩ := atV hc hi
      have hbl : RowKit.Below w.heap.size w wr := Bt (Ba (Below.refl _ w) _) hb1
      exact ⟨g, o, rfl, ⟨Bc hbl hgl c1, Bc hbl hgl c2, Bc hbl hgl c3⟩, by omega⟩
    have CAT := Lib.hid cat
    clear cat hb1 hg
    by_cases hlt : lo < hi
    · obtain ⟨g, o, rfl, ⟨c1, c2, c3⟩, hgw⟩ := CAT.out ((lo + hi) / 2) (by omega)
      generalize hy : l[(lo + hi) / 2]! = y at c1 c2 c3
      obtain ⟨y1, y2, y3⟩ := y
      dsimp only at c1 c2 c3
      have Y := Lib.hid hy
      clear hy
      have i0 : (0 : Int) ≤ ((lo : Int) + (hi : Int)) / 2 := by omega
      have i1 : ((lo : Int) + (hi : Int)) / 2 < (l.length : Int) := by omega
      have i2 : (((lo : Int) + (hi : Int)) / 2).toNat = (lo + hi) / 2 := by omega
      have e1 := cell_grown (show (⟨g, o + (lo + hi) / 2 * 3, none⟩ : Addr).block < wr.heap.size from hgw) c1
      have e2 := cell_grown (show (⟨g, o + (lo + hi) / 2 * 3 + 1, none⟩ : Addr).block < wr.heap.size from hgw) c2
      have e6 := cell_grown (show (⟨g, o + (lo + hi) / 2 * 3 + 2, none⟩ : Addr).block < wr.heap.size from hgw) c3
      by_cases hb : y1 < x1
      · have hc := (cmp_negK (x := (y1, y2, y3)) (y := (x1, x2, x3))).1 hb
        have HBB := Lib.hid hb
        clear hb
        go_wp2_with fail
        go_quiet_grown (first | (go_at_call 43; refine Calls.grown_of (cmpV_agg _ _ _ _ _ _ _)) | (go_at_fn 43; refine Calls.grown_of (cmpV_agg _ _ _ _ _ _ _)))
        go_wp2
        go_roundg (hi - ((lo + hi) / 2 + 1))
        case measure => omega
        case rel =>
          refine ⟨(lo + hi) / 2 + 1, hi, by rw [show ((lo : Int) + (hi : Int)) / 2 + 1 = (((lo + hi) / 2 + 1 : Nat) : Int) by omega], rfl, by omega, hin, Nat.le_refl _, HG.out.drewN.grow, ⟨fun t ht => ?_, I.out.2⟩⟩
          by_cases e : l[t]!.1 < x1
          · exact e
          · have := rise_atK HR.out (show t ≤ (lo + hi) / 2 by omega) (show (lo + hi) / 2 < l.length by omega) e
            rw [Y.out] at this
            exact absurd HBB.out this
      · have hc := (cmp_negK (x := (y1, y2, y3)) (y := (x1, x2, x3))).2 hb
        have HBB := Lib.hid hb
        clear hb
        go_wp2_with fail
        go_quiet_grown (first | (go_at_call 43; refine Calls.grown_of (cmpV_agg _ _ _ _ _ _ _)) | (go_at_fn 43; refine Calls.grown_of (cmpV_agg _ _ _ _ _ _ _)))
        go_wp2
        go_roundg ((lo + hi) / 2 - lo)
        case measure => omega
        case rel => exact ⟨lo, (lo + hi) / 2, rfl, by rw [show ((lo : Int) + (hi : Int)) / 2 = (((lo + hi) / 2 : Nat) : Int) by omega], by omega, by omega, Nat.le_refl _, HG.out.drewN.grow, ⟨I.out.1, fun t ht htn => by have := rise_atK HR.out ht htn (k := x1) (by rw [Y.out]; have := HBB.out; dsimp only; omega); omega⟩⟩
    · obtain rfl : hi = lo := by omega
      have hh : lessK x1 l = hi := lessK_at hin I.out.1 (fun h => I.out.2 hi (Nat.le_refl _) h)
      have E1 := Lib.hid (show R1 = hi by rw [HR1.out, hh])
      clear hh
      by_cases hn : hi < l.length
      · obtain ⟨g, o, rfl, ⟨c1, c2, c3⟩, hgw⟩ := CAT.out hi hn
        generalize l[hi]! = y at c1 c2 c3
        obtain ⟨y1, y2, y3⟩ := y
        dsimp only at c1 c2 c3
        have e1 := cell_grown (show (⟨g, o + hi * 3, none⟩ : Addr).block < wr.heap.size from hgw) c1
        have e2 := cell_grown (show (⟨g, o + hi * 3 + 1, none⟩ : Addr).block < wr.heap.size from hgw) c2
        have e6 := cell_grown (show (⟨g, o + hi * 3 + 2, none⟩ : Addr).block < wr.heap.size from hgw) c3
        clear HR I
        go_wp2_with fail
        go_quiet_grown (first | (go_at_call 43; refine Calls.grown_of (cmpV_agg _ _ _ _ _ _ _)) | (go_at_fn 43; refine Calls.grown_of (cmpV_agg _ _ _ _ _ _ _)))
        go_wp2
        go_ret2
        exact ⟨⟨cmpV (y1, y2, y3) (x1, x2, x3) == 0, by rw [E1.out]; rfl⟩, (Gr.refl w).alloc _ |>.trans HG.out.drewN.grow⟩
      · have hz : ¬ (hi : Int) < (l.length : Int) := by omega
        clear e4 e5 HR I
        go_wp2_with fail
        go_region
        go_wp2
        go_ret2
        exact ⟨⟨false, by rw [E1.out]; rfl⟩, ((Gr.refl w).alloc _).trans HG.out.drew⟩
end Go.Proofs.YtbmclbajhgabgaaDoor
