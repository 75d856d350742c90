/-
  Numbers: order.rising at ints, order.Ints, slices.BinarySearch, slices.Insert, order.Put.
-/
import Derived.Test.YtdpcdfjgpechbaaSort
namespace Go.Proofs.Ytdpcdfjgpechbaa
set_option linter.unusedSimpArgs false
set_option linter.unusedVariables false
open Go.RowKit Go.Sort Go.Lib Go.Shelf

theorem swoI : SWO (ltOf Lib.compareInt) := by
  have e : ltOf Lib.compareInt = ltI := funext fun x => funext fun y => cmpI_lt x y
  rw [e]
  exact swo_of_sto sto_int
theorem oneCellI : OneCell (Value.int .i64) := fun _ => rfl

set_option maxHeartbeats 1000000 in
set_option maxRecDepth 100000 in
/-- slices.SortFunc at ints, by cmp.Compare. -/
theorem sortI_call (base : Nat) (l : List Int) (v : Value) (w : World) (hl : Own base encI 1 w v l) (hb : base ≤ w.heap.size) (hlen : l.length ≤ 100000) :
    Calls Try.prog 59 #[v, .func (.func 45) #[] #[]] w fun e w' => e = .returned (.tuple #[]) ∧ (∃ d' : Array Int, PermIn 0 l.toArray.size l.toArray d' ∧ SortedIn ltI 0 l.toArray.size d' ∧ Own base encI 1 w' v d'.toList) ∧ RowKit.Below base w w' := by
  obtain ⟨p, cap, rfl, h1, h2, h⟩ := hl
  by_cases h0 : l.length = 0
  · have hl0 : l = [] := List.length_eq_zero_iff.1 h0
    subst hl0
    have hcon := AnyF.slices_SortFunc_none (P := Try.prog) (ρ := Try.sortI_ren) { Try.sortI with } p cap (.func (.func 45) #[] #[]) w
    refine hcon.mono ?_
    rintro e w' ⟨rfl, rfl⟩
    exact ⟨rfl, ⟨#[], ⟨rfl, fun i _ => rfl, by simp⟩, fun i j _ _ hj => absurd hj (by simp), ⟨p, cap, rfl, h1, h2, fun h => absurd h (by simp)⟩⟩, Below.refl _ _⟩
  · obtain ⟨g, rfl, hbg, hgl, hH⟩ := h (by omega)
    have eg : ∀ args w, (callFunc 45 args).run Try.prog w = .ok (.enter 45 args) w := enters_of Try.func45 (by kernel_rfl) rfl
    have hcon := Any.slices_SortFunc Try.sortI (Value.int .i64) oneCellI Lib.compareInt swoI 45 #[] g 0 cap l.toArray w eg (fun m os dk _ x y => (compare_any x y _).mono fun _ _ ⟨he, hw⟩ => ⟨he, 0, #[], by rw [hw, grow_empty]; rfl⟩) (holdsI.1 hH) hgl (by simp; omega)
    have e2 : ltOf Lib.compareInt = ltI := funext fun x => funext fun y => cmpI_lt x y
    rw [e2] at hcon
    refine hcon.mono ?_
    rintro e w' ⟨rfl, d', n, os, hp, hs, rfl⟩
    have hds : d'.size = l.length := by rw [hp.1]; simp
    have hdl : d'.toList.length = l.length := by rw [Array.length_toList, hds]
    have hsz : w.heap.size ≤ (sortWorld (Value.int .i64) w g 0 n d' os).heap.size := (below_sortWorld (Nat.zero_le _) (Nat.zero_le _) : RowKit.Below 0 w _).size
    refine ⟨rfl, ⟨d', hp, hs, ⟨_, cap, by rw [hdl], by rw [hdl]; exact h1, h2, fun _ => ⟨g, rfl, hbg, Nat.lt_of_lt_of_le hgl hsz, ?_⟩⟩⟩, below_sortWorld hbg hb⟩
    rw [Array.toArray_toList]
    refine holdsI.2 ?_
    unfold sortWorld
    refine holds_grow _ _ os g 0 d' ?_ (holds_putRow _ _ g 0 l.toArray d' (holds_ahead _ w n g 0 _ (holdsI.1 hH)) (by rw [hds]; simp))
    exact Nat.lt_of_lt_of_le hgl (below_putRow (Nat.zero_le _) : RowKit.Below 0 (Sort.ahead w n) _).size

set_option maxHeartbeats 1000000 in
set_option maxRecDepth 100000 in
theorem compactI_call (B blk cap : Nat) (d : Array Int) (w : World) (hH : HoldsK encI 1 w blk 0 d) (hB : B ≤ blk) (hsz : d.size ≤ 1000000) (hcap : d.size ≤ cap) (hcm : cap ≤ 9223372036854775807) :
    Calls Try.prog 60 #[.slice (some ⟨blk, 0, none⟩) d.size cap] w fun e w' => e = .returned (.slice (some ⟨blk, 0, none⟩) (compactUpTo d d.size).length cap) ∧
      (∃ d' : Array Int, d'.size = d.size ∧ (∀ j, j < (compactUpTo d d.size).length → (compactUpTo d d.size)[j]? = some d'[j]!) ∧ HoldsK encI 1 w' blk 0 d') ∧ RowKit.Below B w w' := by
  have hcon := AnyE.slices_Compact Try.compactI (Value.int .i64) oneCellI (EqlAt.intD _ _ _) (NeqAt.intD _ _ _) 0 Try.zeroValue3 blk 0 cap d w (holdsI.1 hH) (by omega) hcap
  refine hcon.mono ?_
  rintro e w' ⟨rfl, q, rfl⟩
  have hle : (compactUpTo d d.size).length ≤ d.size := by
    unfold compactUpTo
    rw [List.length_map]
    exact Nat.le_trans (List.length_filter_le _ _) (by simp)
  refine ⟨rfl, ⟨_, ?_, fun j hj => ?_, holdsI.2 (holds_putRow _ _ blk 0 d _ (holds_ahead _ w q blk 0 d (holdsI.1 hH)) ?_)⟩, ?_⟩
  · simp; omega
  · rw [arr_get, getElem!_pos _ j (by simp; omega), List.getElem_append_left hj, List.getElem?_eq_getElem hj]
  · simp; omega
  · have := below_putRow (enc := Value.int .i64) (w := Sort.ahead w q) (o := 0) (d := (compactUpTo d d.size ++ List.replicate (d.size - (compactUpTo d d.size).length) 0).toArray) hB
    exact ⟨this.os, this.tape, this.output, this.size, this.block⟩

set_option maxHeartbeats 1000000 in
set_option maxRecDepth 100000 in
/-- order.rising: rising, each once; a copy. -/
theorem risingI_call (l : List Int) (v : Value) (w : World) (hl : Sl encI w v l) (hlen : l.length ≤ 100000) :
    Calls Try.prog 44 #[.func (.func 45) #[] #[], v] w fun e w' => ∃ v', e = .returned v' ∧ Own w.heap.size encI 1 w' v' (srt ltI l) ∧ RowKit.Below w.heap.size w w' := by
  go_enter Try.func44, Try.ntmps44
  go_wp2_with fail
  refine (cloneI_call l v w hl hlen).mono ?_
  rintro e w1 ⟨v1, rfl, ho1, _, hb1⟩
  have HO1 := Lib.hid ho1
  have HB1 := Lib.hid hb1
  clear ho1 hb1 hl
  go_wp2_with fail
  refine (sortI_call w.heap.size l v1 w1 HO1.out HB1.out.size hlen).mono ?_
  rintro e w2 ⟨rfl, ⟨d', hp, hs, ho2⟩, hb2⟩
  have hds : d'.size = l.length := by rw [hp.1]; simp
  have HSRT := Lib.hid (compact_srt sto_int rfl hp hs)
  have HB2 := Lib.hid (HB1.out.trans hb2)
  obtain ⟨p, cap, hv1, h1, h2, h⟩ := ho2
  subst hv1
  have hcm : cap ≤ 9223372036854775807 := by unfold maxLen at h2; omega
  by_cases h0 : d'.size = 0
  · have hd0 : d' = #[] := Array.size_eq_zero_iff.1 h0
    subst hd0
    have HS0 := Lib.hid (show srt ltI l = [] by rw [← HSRT.out]; rfl)
    have H2 := Lib.hid h2
    clear hp hs h h1 hb2 h2
    go_wp2_with fail
    refine (show Calls Try.prog 60 #[.slice p 0 cap] w2 fun e w' => e = .returned (.slice p 0 cap) ∧ w' = w2 by
      go_enter Try.func60, Try.ntmps60
      go_wp2
      go_ret
      exact ⟨rfl, rfl⟩).mono ?_
    rintro e w3 ⟨rfl, rfl⟩
    go_wp2
    go_ret
    exact ⟨_, rfl, by rw [HS0.out]; exact ⟨p, cap, rfl, Nat.zero_le _, H2.out, fun h => absurd h (by simp)⟩, HB2.out⟩
  · obtain ⟨g, rfl, hbg, hgl, hH⟩ := h (by rw [Array.length_toList]; omega)
    rw [Array.toArray_toList] at hH
    rw [Array.length_toList] at h1 ⊢
    have hcon := compactI_call w.heap.size g cap d' w2 hH hbg (by omega) h1 hcm
    have HC := Lib.hid hcon
    have H2 := Lib.hid h2
    have HDS := Lib.hid hds
    clear hcon hp hs h hH hb2 h2 hds
    go_wp2_with fail
    refine HC.out.mono ?_
    rintro e w3 ⟨rfl, ⟨d2, hs2, hlow, hH2⟩, hb3⟩
    rw [HSRT.out] at hlow ⊢
    have hle : (srt ltI l).length ≤ d2.size := by have hds := HDS.out; have := srt_len ltI l; omega
    have HH := Lib.hid (holds_prefix lenI hH2 hle hlow)
    have HB3 := Lib.hid (HB2.out.trans hb3)
    have hgl3 : g < w3.heap.size := Nat.lt_of_lt_of_le hgl hb3.size
    clear hlow hH2 hb3
    go_wp2
    go_ret
    exact ⟨_, rfl, ⟨_, cap, rfl, by omega, H2.out, fun _ => ⟨g, rfl, hbg, hgl3, HH.out⟩⟩, HB3.out⟩

set_option maxHeartbeats 400000 in
/-- order.Ints. -/
theorem ints_call (l : List Int) (v : Value) (w : World) (hl : Sl encI w v l) (hlen : l.length ≤ 100000) :
    Calls Try.prog 27 #[v] w fun e w' => ∃ v', e = .returned v' ∧ Own w.heap.size encI 1 w' v' (srt ltI l) ∧ RowKit.Below w.heap.size w w' := by
  go_enter Try.func27, Try.ntmps27
  go_wp2_with fail
  refine (risingI_call l v w hl hlen).mono ?_
  rintro e w1 ⟨v1, rfl, ho1, hb1⟩
  have HO1 := Lib.hid ho1
  have HB1 := Lib.hid hb1
  clear ho1 hb1 hl
  go_wp2
  go_ret
  exact ⟨_, rfl, HO1.out, HB1.out⟩
end Go.Proofs.Ytdpcdfjgpechbaa
