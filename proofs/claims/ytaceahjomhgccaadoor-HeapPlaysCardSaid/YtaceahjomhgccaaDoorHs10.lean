/-
  The library's Clone and SortFunc at entries; heap.Sort.
-/
import Derived.Test.YtaceahjomhgccaaDoorLk10
import Derived.Test.YtaceahjomhgccaaDoorShelfL
import Derived.Lib.SliceRun
namespace Go.Proofs.YtaceahjomhgccaaDoor
set_option linter.unusedSimpArgs false
set_option linter.unusedVariables false
open Go.RowKit Go.Sort Go.Lib Go.Shelf

set_option maxHeartbeats 1000000 in
set_option maxRecDepth 100000 in
/-- slices.Clone. -/
theorem cloneE_call (l : List Hd) (v : Value) (w : World) (hl : Sl encH w v l) (hlen : l.length ≤ 100000) :
    Calls Tryd.prog 21 #[v] w fun e w' => ∃ v', e = .returned v' ∧ Own w.heap.size encH 2 w' v' l ∧ (w'.ownsRow w.heap.size 35 2 v' l.length (flat encH l)) ∧ RowKit.Below w.heap.size w w' := by
  obtain ⟨p, cap, rfl, h1, h2, h⟩ := hl
  cases p with
  | none =>
    have h0 : l.length = 0 := by
      rcases Nat.eq_zero_or_pos l.length with h0 | h0
      · exact h0
      · obtain ⟨g, o, e, _⟩ := h h0; cases e
    have hl0 : l = [] := List.length_eq_zero_iff.1 h0
    subst hl0
    have q22 : ∀ (w : World) (a : Option Addr) (n c n' c' : Nat), (binOp .eql 27 (.slice a n c) (.slice none n' c')).run Tryd.prog w = .ok (.bool a.isNone) w := fun w a n c n' c' => Lib.run_eql_slice_nil w _ _ a n c n' c' Tryd.underlying27
    go_enter Tryd.func21, Tryd.ntmps21
    go_wp2
    go_ret
    exact ⟨_, rfl, ⟨none, 0, rfl, Nat.le_refl _, Nat.zero_le _, fun h => absurd h (by simp)⟩, World.ownsRow_nil _ _ _ _, (by repeat (first | with_reducible exact Below.refl _ _ | with_reducible assumption | with_reducible apply Ba | with_reducible apply Bd | with_reducible apply Bn | with_reducible apply Bg | (with_reducible refine Bs ?_ (by first | (simp; done) | (simp; omega)) _) | (with_reducible refine Bt ?_ (by assumption)) | (with_reducible refine Bt ?_ (Gr.below (by assumption)))))⟩
  | some ad =>
    have HS := Lib.hid (show Sl encH w (.slice (some ad) l.length cap) l from ⟨_, cap, rfl, h1, h2, h⟩)
    have O1 := Lib.hid (show (w.alloc (.cells #[] 35)).ownsRow w.heap.size 35 2 (.slice (some ⟨w.heap.size, 0, none⟩) 0 0) 0 (flat encH []) from World.ownsRow_made _ #[] 0 (Nat.le_refl _) (Nat.zero_le _) (by simp))
    have A1 := Lib.hid (Ba (Below.refl _ w) (.cells #[] 35))
    have S1 := Lib.hid (HS.out.below A1.out)
    clear h
    have q22 : ∀ (w : World) (a : Option Addr) (n c n' c' : Nat), (binOp .eql 27 (.slice a n c) (.slice none n' c')).run Tryd.prog w = .ok (.bool a.isNone) w := fun w a n c n' c' => Lib.run_eql_slice_nil w _ _ a n c n' c' Tryd.underlying27
    go_enter Tryd.func21, Tryd.ntmps21
    go_wp2_with (at_builtin; refine wpl_app apH rfl _ _ rfl w.heap.size (by rfl) (by rfl) O1.out rfl S1.out (by simp; omega) A1.out.size ?_; intro v1 w1 hown1 hgrow1 hnil1)
    have b1 := grownB A1.out O1.out hgrow1
    go_ret
    have e : [] ++ l = l := List.nil_append l
    rw [e] at hown1
    simp only [List.length_nil, Nat.zero_add] at hown1
    exact ⟨v1, rfl, own_of_row lenH hown1 rfl, hown1, b1⟩

section
variable {α : Type} [Inhabited α] {enc : α → List Value} {k : Nat}
theorem below_putRow {α : Type} [Inhabited α] {enc : α → Value} {B : Nat} {w : World} {b o : Nat} {d : Array α} (hB : B ≤ b) : RowKit.Below B w (putRow enc w b o d) := by
  refine ⟨rfl, rfl, rfl, ?_, fun j hj => ?_⟩
  · simp [putRow, mapBlock]
  · simp only [putRow, mapBlock, Array.getElem?_modify]
    rw [if_neg (by omega)]
theorem below_sortWorldK {B : Nat} {w : World} {b o n : Nat} {d : Array α} {os : Array Obj} (hB : B ≤ b) (hs : B ≤ w.heap.size) : RowKit.Below B w (sortWorldK enc k w b o n d os) := by
  unfold sortWorldK
  have h1 : RowKit.Below B w (putRowK enc k (Sort.ahead w n) b o d) := by
    have : RowKit.Below B (Sort.ahead w n) (putRowK enc k (Sort.ahead w n) b o d) := below_putRow hB
    exact ⟨this.os, this.tape, this.output, this.size, this.block⟩
  exact ⟨h1.os, h1.tape, h1.output, by rw [size_grow]; exact Nat.le_trans h1.size (Nat.le_add_right _ _), fun j hj => (heap_grow_old _ os (Nat.lt_of_lt_of_le (Nat.lt_of_lt_of_le hj hs) h1.size)).trans (h1.block j hj)⟩
end

theorem swo_of_sto {α : Type} {lt : α → α → Bool} (h : STO lt) : SWO lt where
  irrefl := h.irrefl
  trans := h.trans
  ntrans x y z h1 h2 := by
    cases e : lt x z with
    | false => rfl
    | true =>
      cases e2 : lt y x with
      | true => have := h.trans _ _ _ e2 e; rw [h2] at this; cases this
      | false => have := h.total _ _ h1 e2; subst this; rw [h2] at e; cases e

theorem swoH : SWO (ltOf cmpH) := by
  have e : ltOf cmpH = ltH := funext fun x => funext fun y => cmpH_lt x y
  rw [e]
  exact swo_of_sto sto_hd

set_option maxHeartbeats 1000000 in
set_option maxRecDepth 100000 in
/-- slices.SortFunc. -/
theorem sortE_call (base : Nat) (l : List Hd) (v : Value) (w : World) (hl : Own base encH 2 w v l) (hb : base ≤ w.heap.size) (hlen : l.length ≤ 100000) :
    Calls Tryd.prog 22 #[v, .func (.func 23) #[] #[]] w fun e w' => e = .returned (.tuple #[]) ∧ (∃ d' : Array Hd, PermIn 0 l.toArray.size l.toArray d' ∧ SortedIn ltH 0 l.toArray.size d' ∧ Own base encH 2 w' v d'.toList) ∧ RowKit.Below base w w' := by
  obtain ⟨p, cap, rfl, h1, h2, h⟩ := hl
  by_cases h0 : l.length = 0
  · have hl0 : l = [] := List.length_eq_zero_iff.1 h0
    subst hl0
    have hcon := AnyF.slices_SortFunc_none (P := Tryd.prog) (ρ := Tryd.sortH_ren) { Tryd.sortH with } p cap (.func (.func 23) #[] #[]) w
    refine hcon.mono ?_
    rintro e w' ⟨rfl, rfl⟩
    exact ⟨rfl, ⟨#[], ⟨rfl, fun i _ => rfl, by simp⟩, fun i j _ _ hj => absurd hj (by simp), ⟨p, cap, rfl, h1, h2, fun h => absurd h (by simp)⟩⟩, Below.refl _ _⟩
  · obtain ⟨g, rfl, hbg, hgl, hH⟩ := h (by omega)
    have eg : ∀ args w, (callFunc 23 args).run Tryd.prog w = .ok (.enter 23 args) w := enters_of Tryd.func23 (by kernel_rfl) rfl
    have hcon := AnyQ.slices_SortFunc Tryd.sortH 2 Tryd.isAgg35 Tryd.sizeOf35 encH lenH oneH cmpH swoH 23 #[] g 0 cap l.toArray w eg (fun m os dk _ x y => cmpE_any x y _) hH hgl (by simp; omega)
    have e2 : ltOf cmpH = ltH := funext fun x => funext fun y => cmpH_lt x y
    rw [e2] at hcon
    refine hcon.mono ?_
    rintro e w' ⟨rfl, d', n, os, hp, hs, rfl⟩
    have hds : d'.size = l.length := by rw [hp.1]; simp
    have hdl : d'.toList.length = l.length := by rw [Array.length_toList, hds]
    refine ⟨rfl, ⟨d', hp, hs, ⟨_, cap, by rw [hdl], by rw [hdl]; exact h1, h2, fun _ => ⟨g, rfl, hbg, ?_, ?_⟩⟩⟩, below_sortWorldK hbg hb⟩
    · exact Nat.lt_of_lt_of_le hgl (size_sortWorldK_c encH 2 w g 0 n d' os)
    · rw [Array.toArray_toList]
      exact holdsK_sortWorldK_c encH 2 w g 0 l.toArray d' n os hH hgl (by rw [hds]; simp)

/-- A sorted permutation is the row in order. -/
theorem sort_puts {l : List Hd} {d' : Array Hd} (hp : PermIn 0 l.toArray.size l.toArray d') (hs : SortedIn ltH 0 l.toArray.size d') : d'.toList = putsL ltH [] l := by
  obtain ⟨hsz, _, hperm⟩ := hp
  have e1 : d'.extract 0 l.toArray.size = d' := by rw [← hsz]; exact Array.extract_size
  have e2 : l.toArray.extract 0 l.toArray.size = l.toArray := Array.extract_size
  rw [e1, e2] at hperm
  refine sorted_uniq sto_hd _ _ ?_ (putsL_sorted sto_hd [] l List.Pairwise.nil) (hperm.trans (by simpa using (putsL_perm (lt := ltH) [] l).symm))
  refine List.pairwise_iff_getElem.2 fun i j hi hj hij => ?_
  have hi' : i < d'.size := by simpa using hi
  have hj' : j < d'.size := by simpa using hj
  have := hs i j (Nat.zero_le _) hij (by rw [← hsz]; exact hj')
  rw [getElem!_pos d' i hi', getElem!_pos d' j hj'] at this
  simpa using this
theorem puts_len (l : List Hd) : (putsL ltH [] l).length = l.length := by rw [putsL_len]; simp

set_option maxHeartbeats 1000000 in
set_option maxRecDepth 100000 in
/-- heap.Sort. -/
theorem hsort_call (l : List Hd) (v : Value) (w : World) (hl : Sl encH w v l) (hlen : l.length ≤ 16384) :
    Calls Tryd.prog 17 #[v] w fun e w' => ∃ v', e = .returned (.tuple #[v', .nilIface]) ∧ Own w.heap.size encH 2 w' v' (putsL ltH [] l) ∧ RowKit.Below w.heap.size w w' := by
  have HC := Lib.hid (cloneE_call l v w hl (by omega))
  obtain ⟨p, cap, rfl, h1, h2, _⟩ := hl
  unfold maxLen at h2
  have hz : ¬ (l.length : Int) > 16384 := by omega
  go_enter Tryd.func17, Tryd.ntmps17
  go_wp2_with fail
  refine HC.out.mono ?_
  rintro e w1 ⟨v1, rfl, ho1, _, hb1⟩
  have B1 := Lib.hid hb1
  have SO := Lib.hid (sortE_call w.heap.size l v1 w1 ho1 hb1.size (by omega))
  clear ho1 hb1 HC
  go_wp2_with fail
  refine SO.out.mono ?_
  rintro e w2 ⟨rfl, ⟨d', hp, hs, ho2⟩, hb2⟩
  have O2 := Lib.hid ho2
  have B2 := Lib.hid (B1.out.trans hb2)
  have E := Lib.hid (sort_puts hp hs)
  clear hp hs ho2 hb2 SO B1
  obtain ⟨p2, c2, e2, _, _, _⟩ := O2.out
  subst e2
  go_wp2
  exact bodyPost_ret (v := .tuple #[.slice p2 d'.toList.length c2, .nilIface]) (by simp [results, Tryd.results17, go_sem]) rfl ⟨_, rfl, by rw [← E.out]; exact O2.out, B2.out⟩
end Go.Proofs.YtaceahjomhgccaaDoor
