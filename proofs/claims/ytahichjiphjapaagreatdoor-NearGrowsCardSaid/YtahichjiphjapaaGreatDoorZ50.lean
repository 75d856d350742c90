import Derived.Test.YtahichjiphjapaaGreatDoorZ10
import Derived.Test.YtahichjiphjapaaGreatDoorZ12
import Derived.Test.YtahichjiphjapaaGreatDoorZ6
import Derived.Shelf.SlSortCmp.NoneTotal
import Derived.Test.YtahichjiphjapaaGreatDoorZ1

/-
  Package quad: cells in order; the nodes.
-/
namespace Go.Proofs.YtahichjiphjapaaGreatDoor
set_option linter.unusedSimpArgs false
set_option linter.unusedVariables false
open Go.RowKit Go.Sort Go.Lib Go.Shelf

def or3I (x y z : Int) : Int := orI x (orI y z)
set_option maxHeartbeats 1000000 in
theorem or3_any (x y z : Int) (b : Nat) (w : World) (hx : w.cell? ⟨b, 0, none⟩ = some (.int .i64 x)) (hy : w.cell? ⟨b, 1, none⟩ = some (.int .i64 y)) (hz : w.cell? ⟨b, 2, none⟩ = some (.int .i64 z)) : Calls Tryz.prog 92 #[.slice (some ⟨b, 0, none⟩) 3 3] w fun e w' => e = .returned (.int .i64 (or3I x y z)) ∧ w' = w := by
  go_enter Tryz.func92, Tryz.ntmps92
  go_wp2
  go_loopw [8] (fun i wr => wr = w ∧ (i = .int .i64 0 ∨ (i = .int .i64 1 ∧ x = 0) ∨ (i = .int .i64 2 ∧ x = 0 ∧ y = 0) ∨ (i = .int .i64 3 ∧ x = 0 ∧ y = 0 ∧ z = 0))) (fun i _ => 3 - (intOf i).toNat)
  case atStart => exact ⟨by trivial, .inl rfl⟩
  case round =>
    obtain ⟨rfl, rfl | ⟨rfl, h0⟩ | ⟨rfl, h0, h1⟩ | ⟨rfl, h0, h1, h2⟩⟩ := hrel
    · by_cases h : x = 0
      · go_wp2
        go_roundw
        case measure => simp [intOf]
        case rel => exact ⟨by trivial, .inr (.inl ⟨by go_num, h⟩)⟩
      · go_wp2
        go_ret
        exact ⟨by simp [or3I, orI, h], rfl⟩
    · by_cases h : y = 0
      · go_wp2
        go_roundw
        case measure => simp [intOf]
        case rel => exact ⟨by trivial, .inr (.inr (.inl ⟨by go_num, h0, h⟩))⟩
      · go_wp2
        go_ret
        exact ⟨by simp [or3I, orI, h0, h], rfl⟩
    · by_cases h : z = 0
      · go_wp2
        go_roundw
        case measure => simp [intOf]
        case rel => exact ⟨by trivial, .inr (.inr (.inr ⟨by go_num, h0, h1, h⟩))⟩
      · go_wp2
        go_ret
        exact ⟨by simp [or3I, orI, h0, h1], rfl⟩
    · go_wp2
      go_ret
      exact ⟨by simp [or3I, orI, h0, h1, h2], rfl⟩
theorem or3_new (x y z : Int) (b : Nat) (w : World) (t : TypeId) (hb : b = w.heap.size) : Calls Tryz.prog 92 #[.slice (some ⟨b, 0, none⟩) 3 3] (w.alloc (.cells #[.int .i64 x, .int .i64 y, .int .i64 z] t)).drew fun e w' => e = .returned (.int .i64 (or3I x y z)) ∧ w' = (w.alloc (.cells #[.int .i64 x, .int .i64 y, .int .i64 z] t)).drew := by
  subst hb
  exact or3_any x y z _ _ (by simp) (by simp) (by simp)
/-- By Depth, Y, X. -/
def cmpC (a b : Cl) : Int := or3I (Lib.compareInt a.1 b.1) (Lib.compareInt a.2.2 b.2.2) (Lib.compareInt a.2.1 b.2.1)
theorem orI_lt (a b : Int) : decide (orI a b < 0) = (if a = 0 then decide (b < 0) else decide (a < 0)) := by unfold orI; split <;> rfl
theorem cmpC_lt (x y : Cl) : decide (cmpC x y < 0) = ltC x y := by
  obtain ⟨x1, x2, x3⟩ := x
  obtain ⟨y1, y2, y3⟩ := y
  unfold cmpC or3I ltC
  rw [orI_lt, orI_lt]
  dsimp only
  simp only [cmpI_lt, cmpI_eq]
  by_cases h1 : x1 = y1
  · subst h1
    by_cases h2 : x3 = y3
    · subst h2
      simp
    · simp [h2]
  · simp [h1]
theorem swoC : SWO (ltOf cmpC) := by
  have e : ltOf cmpC = ltC := funext fun x => funext fun y => cmpC_lt x y
  rw [e]
  exact swo_of_sto sto_cl
end Go.Proofs.YtahichjiphjapaaGreatDoor

/-
  Package near: what is found, in memory; its order; sorted.
-/
namespace Go.Proofs.YtahichjiphjapaaGreatDoor
set_option linter.unusedSimpArgs false
set_option linter.unusedVariables false
open Go.RowKit Go.Sort Go.Lib Go.Shelf

theorem sorted_srtF {α : Type} [Inhabited α] [DecidableEq α] {lt : α → α → Bool} (h : STO lt) {l : List α} {d' : Array α} (hp : PermIn 0 l.toArray.size l.toArray d') (hs : SortedIn lt 0 l.toArray.size d') (hn : l.Nodup) : d'.toList = srt lt l := by
  obtain ⟨hsz, _, hperm⟩ := hp
  have e1 : d'.extract 0 l.toArray.size = d' := by rw [← hsz]; exact Array.extract_size
  have e2 : l.toArray.extract 0 l.toArray.size = l.toArray := Array.extract_size
  rw [e1, e2] at hperm
  have hmem := fun z => hperm.mem_iff (a := z)
  have hn' : d'.toList.Nodup := by
    have := hperm.nodup_iff
    simp only [List.toList_toArray] at this
    first | exact this.1 hn | exact this.2 hn
  refine (srt_eq h ?_ fun z => ?_).symm
  · unfold Rise
    rw [List.pairwise_iff_getElem]
    intro i j hi hj hij
    have hi' : i < d'.size := by simpa using hi
    have hj' : j < d'.size := by simpa using hj
    have h1 : lt d'[j]! d'[i]! = false := hs i j (Nat.zero_le _) hij (by rw [← hsz]; exact hj')
    rw [getElem!_pos d' i hi', getElem!_pos d' j hj'] at h1
    have hne : d'.toList[i] ≠ d'.toList[j] := fun e => by
      have := (List.getElem_inj hn').1 e
      omega
    simp only [Array.getElem_toList] at hne ⊢
    cases c : lt d'[i] d'[j] with
    | true => rfl
    | false => exact absurd (h.total _ _ c h1) hne
  · have := hmem z
    simp only [List.toList_toArray] at this
    first | exact this | exact this.symm
/-- A handle's and its square's three cells. -/
def encF (z : Fa) : List Value := [.int .i64 z.2.1, .int .i64 z.2.2, .int .i64 z.1]
theorem lenF (z : Fa) : (encF z).length = 3 := rfl
theorem oneF (z : Fa) : ∀ v ∈ encF z, v.oneCell' = true := fun v hv => by simp [encF] at hv; rcases hv with rfl | rfl | rfl <;> rfl
theorem apF : Ap encF 59 77 3 (.agg #[.int .i64 0, .int .i64 0, .int .i64 0]) 24 :=
  ⟨Tryz.underlying59, info_parts (by kernel_rfl), by decide, by decide, by decide, lenF, oneF⟩
theorem atF {w : World} {l : List Fa} {g o : Nat} (h : ∀ j u, (flat encF l)[j]? = some u → w.cell? ⟨g, o + j, none⟩ = some u) {i : Nat} (hi : i < l.length) :
    w.cell? ⟨g, o + i * 3, none⟩ = some (.int .i64 l[i]!.2.1) ∧ w.cell? ⟨g, o + i * 3 + 1, none⟩ = some (.int .i64 l[i]!.2.2) ∧ w.cell? ⟨g, o + i * 3 + 2, none⟩ = some (.int .i64 l[i]!.1) :=
  ⟨sl_at lenF h hi 0 _ rfl, sl_at lenF h hi 1 _ rfl, sl_at lenF h hi 2 _ rfl⟩
/-- By the square, of one square by handle. -/
def cmpF (a b : Fa) : Int := or3I (Lib.compareInt a.1 b.1) (Lib.compareInt a.2.1 b.2.1) (Lib.compareInt a.2.2 b.2.2)
theorem cmpF_lt (x y : Fa) : decide (cmpF x y < 0) = ltF x y := by
  obtain ⟨x1, x2, x3⟩ := x
  obtain ⟨y1, y2, y3⟩ := y
  unfold cmpF or3I ltF
  rw [orI_lt, show orI (Lib.compareInt x2 y2) (Lib.compareInt x3 y3) = cmpH (x2, x3) (y2, y3) from rfl, cmpH_lt]
  dsimp only
  simp only [cmpI_lt, cmpI_eq]
  by_cases h1 : x1 = y1
  · subst h1
    simp
  · simp [h1]
set_option maxHeartbeats 1000000 in
set_option maxRecDepth 100000 in
theorem cmpF_any (x y : Fa) (w : World) : Calls Tryz.prog 63 #[.agg #[.int .i64 x.2.1, .int .i64 x.2.2, .int .i64 x.1], .agg #[.int .i64 y.2.1, .int .i64 y.2.2, .int .i64 y.1]] w fun e w' => e = .returned (.int .i64 (cmpF x y)) ∧ Gr w w' := by
  obtain ⟨x1, x2, x3⟩ := x
  obtain ⟨y1, y2, y3⟩ := y
  unfold cmpF
  dsimp only
  go_enter Tryz.func63, Tryz.ntmps63
  go_wp2_with fail
  go_region_held3 (fun w' => Gr ((w.alloc (.cells #[.int .i64 x2, .int .i64 x3, .int .i64 x1] 77)).alloc (.cells #[.int .i64 y2, .int .i64 y3, .int .i64 y1] 77)) w' ∧ ∀ b_1 o, b_1 < ((w.alloc (.cells #[.int .i64 x2, .int .i64 x3, .int .i64 x1] 77)).alloc (.cells #[.int .i64 y2, .int .i64 y3, .int .i64 y1] 77)).heap.size → w'.cell? ⟨b_1, o, none⟩ = ((w.alloc (.cells #[.int .i64 x2, .int .i64 x3, .int .i64 x1] 77)).alloc (.cells #[.int .i64 y2, .int .i64 y3, .int .i64 y1] 77)).cell? ⟨b_1, o, none⟩) (first | exact gkeep0 _ | exact gkeepG (by assumption) hg1 | exact gkeepA (by assumption) _ | assumption)
    (first
      | (go_at_call 93; refine (compare_any _ _ _).mono ?_; rintro e w1 ⟨rfl, rfl⟩)
      | (go_at_call 92; refine (or3_new (Lib.compareInt x1 y1) (Lib.compareInt x2 y2) (Lib.compareInt x3 y3) _ _ _ (by simp)).mono ?_; rintro e w1 ⟨rfl, rfl⟩))
  go_wp2
  go_ret
  exact ⟨rfl, (by repeat (first | with_reducible exact Gr.refl _ | with_reducible assumption | with_reducible apply Gr.alloc | with_reducible apply Gr.drewN | with_reducible apply Gr.drew | with_reducible apply Gr.grow | (with_reducible refine Gr.trans ?_ (by assumption))))⟩
theorem swoF : SWO (ltOf cmpF) := by
  have e : ltOf cmpF = ltF := funext fun x => funext fun y => cmpF_lt x y
  rw [e]
  exact swo_of_sto sto_fa
set_option maxHeartbeats 1000000 in
set_option maxRecDepth 100000 in
/-- slices.SortFunc. -/
theorem sortF_call (base : Nat) (l : List Fa) (v : Value) (w : World) (hl : Own base encF 3 w v l) (hb : base ≤ w.heap.size) (hlen : l.length ≤ 100000) (hn : l.Nodup) :
    Calls Tryz.prog 62 #[v, .func (.func 63) #[] #[]] w fun e w' => e = .returned (.tuple #[]) ∧ Own base encF 3 w' v (srt ltF l) ∧ RowKit.Below base w w' := by
  have hsl := (srt_nodup sto_fa hn)
  obtain ⟨p, cap, rfl, h1, h2, h⟩ := hl
  by_cases h0 : l.length = 0
  · have hl0 : l = [] := List.length_eq_zero_iff.1 h0
    subst hl0
    have hcon := AnyF.slices_SortFunc_none (P := Tryz.prog) (ρ := Tryz.sortF_ren) { Tryz.sortF with } p cap (.func (.func 63) #[] #[]) w
    refine hcon.mono ?_
    rintro e w' ⟨rfl, rfl⟩
    exact ⟨rfl, ⟨p, cap, rfl, h1, h2, fun h => absurd h (by simp [srt])⟩, Below.refl _ _⟩
  · obtain ⟨g, rfl, hbg, hgl, hH⟩ := h (by omega)
    have eg : ∀ args w, (callFunc 63 args).run Tryz.prog w = .ok (.enter 63 args) w := enters_of Tryz.func63 (by kernel_rfl) rfl
    have hcon := AnyQ.slices_SortFunc Tryz.sortF 3 Tryz.isAgg77 Tryz.sizeOf77 encF lenF oneF cmpF swoF 63 #[] g 0 cap l.toArray w eg (fun m os dk _ x y => cmpF_any x y _) hH hgl (by simp; omega)
    have e2 : ltOf cmpF = ltF := funext fun x => funext fun y => cmpF_lt x y
    rw [e2] at hcon
    refine hcon.mono ?_
    rintro e w' ⟨rfl, d', n, os, hp, hs, rfl⟩
    have hds : d'.size = l.length := by rw [hp.1]; simp
    have hdl : d'.toList.length = l.length := by rw [Array.length_toList, hds]
    rw [← sorted_srtF sto_fa hp hs hn]
    refine ⟨rfl, ⟨_, cap, by rw [hdl], by rw [hdl]; exact h1, h2, fun _ => ⟨g, rfl, hbg, ?_, ?_⟩⟩, below_sortWorldK hbg hb⟩
    · exact Nat.lt_of_lt_of_le hgl (size_sortWorldK_c encF 3 w g 0 n d' os)
    · rw [Array.toArray_toList]
      exact holdsK_sortWorldK_c encF 3 w g 0 l.toArray d' n os hH hgl (by rw [hds]; simp)
end Go.Proofs.YtahichjiphjapaaGreatDoor
