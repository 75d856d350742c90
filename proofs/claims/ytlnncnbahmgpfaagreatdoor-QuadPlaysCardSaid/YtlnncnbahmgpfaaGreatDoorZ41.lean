import Derived.Test.YtlnncnbahmgpfaaGreatDoorZ10
import Derived.Test.YtlnncnbahmgpfaaGreatDoorZ12
import Derived.Test.YtlnncnbahmgpfaaGreatDoorZ6

/-
  Package quad: cells in order; the nodes.
-/
namespace Go.Proofs.YtlnncnbahmgpfaaGreatDoor
set_option linter.unusedSimpArgs false
set_option linter.unusedVariables false
open Go.RowKit Go.Sort Go.Lib Go.Shelf

theorem apQC : Ap encC 88 55 3 (.agg #[.int .i64 0, .int .i64 0, .int .i64 0]) 24 :=
  ⟨Tryz.underlying88, info_parts (by kernel_rfl), by decide, by decide, by decide, lenC, oneC⟩
def or3I (x y z : Int) : Int := orI x (orI y z)
set_option maxHeartbeats 1000000 in
theorem or3_any (x y z : Int) (b : Nat) (w : World) (hx : w.cell? ⟨b, 0, none⟩ = some (.int .i64 x)) (hy : w.cell? ⟨b, 1, none⟩ = some (.int .i64 y)) (hz : w.cell? ⟨b, 2, none⟩ = some (.int .i64 z)) : Calls Tryz.prog 72 #[.slice (some ⟨b, 0, none⟩) 3 3] w fun e w' => e = .returned (.int .i64 (or3I x y z)) ∧ w' = w := by
  go_enter Tryz.func72, Tryz.ntmps72
  go_wp2
  go_loopw [8] (fun i wr => wr = w ∧ (i = .int .i64 0 ∨ (i = .int .i64 1 ∧ x = 0) ∨ (i = .int .i64 2 ∧ x = 0 ∧ y = 0) ∨ (i = .int .i64 3 ∧ x = 0 ∧ y = 0 ∧ z = 0))) (fun i _ => 3 - (intOf i).toNat)
  case atStart => exact ⟨by trivial, .inl rfl⟩
  case round =>
    obtain ⟨rfl, rfl | ⟨rfl, h0⟩ | ⟨rfl, h0, h1⟩ | ⟨rfl, h0, h1, h2⟩⟩ := hrel
    · by_cases h : x = 0
      · go_wp2
        go_roundw
        case measure => simp [intOf]
        case rel => exact ⟨by trivial, .inr (.inl ⟨by go_num, h⟩)⟩
      · go_wp2
        go_ret
        exact ⟨by simp [or3I, orI, h], rfl⟩
    · by_cases h : y = 0
      · go_wp2
        go_roundw
        case measure => simp [intOf]
        case rel => exact ⟨by trivial, .inr (.inr (.inl ⟨by go_num, h0, h⟩))⟩
      · go_wp2
        go_ret
        exact ⟨by simp [or3I, orI, h0, h], rfl⟩
    · by_cases h : z = 0
      · go_wp2
        go_roundw
        case measure => simp [intOf]
        case rel => exact ⟨by trivial, .inr (.inr (.inr ⟨by go_num, h0, h1, h⟩))⟩
      · go_wp2
        go_ret
        exact ⟨by simp [or3I, orI, h0, h1], rfl⟩
    · go_wp2
      go_ret
      exact ⟨by simp [or3I, orI, h0, h1, h2], rfl⟩
theorem or3_new (x y z : Int) (b : Nat) (w : World) (t : TypeId) (hb : b = w.heap.size) : Calls Tryz.prog 72 #[.slice (some ⟨b, 0, none⟩) 3 3] (w.alloc (.cells #[.int .i64 x, .int .i64 y, .int .i64 z] t)).drew fun e w' => e = .returned (.int .i64 (or3I x y z)) ∧ w' = (w.alloc (.cells #[.int .i64 x, .int .i64 y, .int .i64 z] t)).drew := by
  subst hb
  exact or3_any x y z _ _ (by simp) (by simp) (by simp)
/-- By Depth, Y, X. -/
def cmpC (a b : Cl) : Int := or3I (Lib.compareInt a.1 b.1) (Lib.compareInt a.2.2 b.2.2) (Lib.compareInt a.2.1 b.2.1)
theorem orI_lt (a b : Int) : decide (orI a b < 0) = (if a = 0 then decide (b < 0) else decide (a < 0)) := by unfold orI; split <;> rfl
theorem cmpC_lt (x y : Cl) : decide (cmpC x y < 0) = ltC x y := by
  obtain ⟨x1, x2, x3⟩ := x
  obtain ⟨y1, y2, y3⟩ := y
  unfold cmpC or3I ltC
  rw [orI_lt, orI_lt]
  dsimp only
  simp only [cmpI_lt, cmpI_eq]
  by_cases h1 : x1 = y1
  · subst h1
    by_cases h2 : x3 = y3
    · subst h2
      simp
    · simp [h2]
  · simp [h1]
set_option maxHeartbeats 1000000 in
set_option maxRecDepth 100000 in
theorem cmpC_any (x y : Cl) (w : World) : Calls Tryz.prog 71 #[.agg #[.int .i64 x.1, .int .i64 x.2.1, .int .i64 x.2.2], .agg #[.int .i64 y.1, .int .i64 y.2.1, .int .i64 y.2.2]] w fun e w' => e = .returned (.int .i64 (cmpC x y)) ∧ Gr w w' := by
  obtain ⟨x1, x2, x3⟩ := x
  obtain ⟨y1, y2, y3⟩ := y
  unfold cmpC
  dsimp only
  go_enter Tryz.func71, Tryz.ntmps71
  go_wp2_with fail
  go_region_held3 (fun w' => Gr ((w.alloc (.cells #[.int .i64 x1, .int .i64 x2, .int .i64 x3] 55)).alloc (.cells #[.int .i64 y1, .int .i64 y2, .int .i64 y3] 55)) w' ∧ ∀ b_1 o, b_1 < ((w.alloc (.cells #[.int .i64 x1, .int .i64 x2, .int .i64 x3] 55)).alloc (.cells #[.int .i64 y1, .int .i64 y2, .int .i64 y3] 55)).heap.size → w'.cell? ⟨b_1, o, none⟩ = ((w.alloc (.cells #[.int .i64 x1, .int .i64 x2, .int .i64 x3] 55)).alloc (.cells #[.int .i64 y1, .int .i64 y2, .int .i64 y3] 55)).cell? ⟨b_1, o, none⟩) (first | exact gkeep0 _ | exact gkeepG (by assumption) hg1 | exact gkeepA (by assumption) _ | assumption)
    (first
      | (go_at_call 73; refine (compare_any _ _ _).mono ?_; rintro e w1 ⟨rfl, rfl⟩)
      | (go_at_call 72; refine (or3_new (Lib.compareInt x1 y1) (Lib.compareInt x3 y3) (Lib.compareInt x2 y2) _ _ _ (by simp)).mono ?_; rintro e w1 ⟨rfl, rfl⟩))
  go_wp2
  go_ret
  exact ⟨rfl, (by repeat (first | with_reducible exact Gr.refl _ | with_reducible assumption | with_reducible apply Gr.alloc | with_reducible apply Gr.drewN | with_reducible apply Gr.drew | with_reducible apply Gr.grow | (with_reducible refine Gr.trans ?_ (by assumption))))⟩
theorem swoC : SWO (ltOf cmpC) := by
  have e : ltOf cmpC = ltC := funext fun x => funext fun y => cmpC_lt x y
  rw [e]
  exact swo_of_sto sto_cl
set_option maxHeartbeats 1000000 in
set_option maxRecDepth 100000 in
/-- slices.SortFunc. -/
theorem sortC_call (base : Nat) (l : List Cl) (v : Value) (w : World) (hl : Own base encC 3 w v l) (hb : base ≤ w.heap.size) (hlen : l.length ≤ 100000) :
    Calls Tryz.prog 70 #[v, .func (.func 71) #[] #[]] w fun e w' => e = .returned (.tuple #[]) ∧ (∃ d' : Array Cl, PermIn 0 l.toArray.size l.toArray d' ∧ SortedIn ltC 0 l.toArray.size d' ∧ Own base encC 3 w' v d'.toList) ∧ RowKit.Below base w w' := by
  obtain ⟨p, cap, rfl, h1, h2, h⟩ := hl
  by_cases h0 : l.length = 0
  · have hl0 : l = [] := List.length_eq_zero_iff.1 h0
    subst hl0
    have hcon := AnyF.slices_SortFunc_none (P := Tryz.prog) (ρ := Tryz.sortC_ren) { Tryz.sortC with } p cap (.func (.func 71) #[] #[]) w
    refine hcon.mono ?_
    rintro e w' ⟨rfl, rfl⟩
    exact ⟨rfl, ⟨#[], ⟨rfl, fun i _ => rfl, by simp⟩, fun i j _ _ hj => absurd hj (by simp), ⟨p, cap, rfl, h1, h2, fun h => absurd h (by simp)⟩⟩, Below.refl _ _⟩
  · obtain ⟨g, rfl, hbg, hgl, hH⟩ := h (by omega)
    have eg : ∀ args w, (callFunc 71 args).run Tryz.prog w = .ok (.enter 71 args) w := enters_of Tryz.func71 (by kernel_rfl) rfl
    have hcon := AnyQ.slices_SortFunc Tryz.sortC 3 Tryz.isAgg55 Tryz.sizeOf55 encC lenC oneC cmpC swoC 71 #[] g 0 cap l.toArray w eg (fun m os dk _ x y => cmpC_any x y _) hH hgl (by simp; omega)
    have e2 : ltOf cmpC = ltC := funext fun x => funext fun y => cmpC_lt x y
    rw [e2] at hcon
    refine hcon.mono ?_
    rintro e w' ⟨rfl, d', n, os, hp, hs, rfl⟩
    have hds : d'.size = l.length := by rw [hp.1]; simp
    have hdl : d'.toList.length = l.length := by rw [Array.length_toList, hds]
    refine ⟨rfl, ⟨d', hp, hs, ⟨_, cap, by rw [hdl], by rw [hdl]; exact h1, h2, fun _ => ⟨g, rfl, hbg, ?_, ?_⟩⟩⟩, below_sortWorldK hbg hb⟩
    · exact Nat.lt_of_lt_of_le hgl (size_sortWorldK_c encC 3 w g 0 n d' os)
    · rw [Array.toArray_toList]
      exact holdsK_sortWorldK_c encC 3 w g 0 l.toArray d' n os hH hgl (by rw [hds]; simp)
end Go.Proofs.YtlnncnbahmgpfaaGreatDoor
